import PyProof.Rows.All
import Wide.All
import OpenK.AllK
import Wide.FinOn
import Lean
import PyProof.EqAt
import PyProof.EqKinds
import PyProof.TupleCall
import PySem.Challenge.RW_signsmooth_k50_staircases_known
set_option genSizeOf false
set_option bootstrap.genMatcherCode false
set_option Elab.async false
set_option linter.all false
set_option maxRecDepth 100000
set_option exponentiation.threshold 2000
namespace L2
open PySem PySem.Spec PyProof.Rows
noncomputable abbrev Key:=Sum Int Str
noncomputable def FR:Key→Value→Bool
 | .inl k,v=>Value.isInt k v
 | .inr x,v=>Value.isStrOf x v
noncomputable def L0 (w:World):Key→Int
 | .inl k=>hashInt k
 | .inr x=>hashStr w x
theorem cQ:∀ {k:Key} {v:Value},FR k v=true→(∃ i t,k=Sum.inl i∧v=Value.int i t)∨(∃ x t,k=Sum.inr x∧v=Value.str x t)
 | .inl i,v,h=>by
   obtain ⟨t,e⟩:=Value.isInt_shape (k:=i) (v:=v) h
   exact .inl ⟨i,t,rfl,e⟩
 | .inr x,v,h=>by
   obtain ⟨t,e⟩:=Value.isStrOf_shape (x:=x) (v:=v) h
   exact .inr ⟨x,t,rfl,e⟩
theorem Ja (a b:Int):decide ((Sum.inl a:Key)=Sum.inl b)=(a == b):=by
 by_cases e:a=b
 · subst e; simp
 · have h:¬ (Sum.inl a:Key)=Sum.inl b:=fun q=>e (Sum.inl.inj q)
   rw [decide_eq_false h]
   exact (beq_eq_false_iff_ne.mpr e).symm
theorem Jc (a b:Str):decide ((Sum.inr a:Key)=Sum.inr b)=decide (a=b):=by
 by_cases e:a=b
 · subst e; simp
 · have h:¬ (Sum.inr a:Key)=Sum.inr b:=fun q=>e (Sum.inr.inj q)
   rw [decide_eq_false h,decide_eq_false e]
theorem J0 (a:Int) (b:Str):decide ((Sum.inl a:Key)=Sum.inr b)=false:=decide_eq_false (fun q=>nomatch q)
theorem JX (a:Str) (b:Int):decide ((Sum.inr a:Key)=Sum.inl b)=false:=decide_eq_false (fun q=>nomatch q)
noncomputable def zg (prog:Program) (w:World):PySem.KeyKind prog w Key where
 is:=FR
 hash:=L0 w
 inj:=fun v a b ha hb=>by
   rcases cQ ha with ⟨i,t,rfl,rfl⟩ | ⟨x,t,rfl,rfl⟩
   · rcases cQ hb with ⟨j,u,rfl,e⟩ | ⟨y,u,rfl,e⟩
     · injection e with e1 _; rw [e1]
     · exact nomatch e
   · rcases cQ hb with ⟨j,u,rfl,e⟩ | ⟨y,u,rfl,e⟩
     · exact nomatch e
     · injection e with e1 _; rw [e1]
 byValue:=fun k v h=>by
   rcases cQ h with ⟨i,t,rfl,rfl⟩ | ⟨x,t,rfl,rfl⟩ <;> rfl
 pyHash:=fun hv h=>by
   rcases cQ hv with ⟨i,t,rfl,rfl⟩ | ⟨x,t,rfl,rfl⟩
   · exact wpAny_pyHash_int h
   · exact wpAny_pyHash_str h
 eqBool:=fun hu hv h=>by
   rcases cQ hu with ⟨i,t,rfl,rfl⟩ | ⟨x,t,rfl,rfl⟩
   · rcases cQ hv with ⟨j,u,rfl,rfl⟩ | ⟨y,u,rfl,rfl⟩
     · rw [Ja] at h; exact wpAny_eqBool_int h
     · rw [J0] at h; exact SeqAt.EqAt.int_str i t y u _ _ _ _ h
   · rcases cQ hv with ⟨j,u,rfl,rfl⟩ | ⟨y,u,rfl,rfl⟩
     · rw [JX] at h; exact SeqAt.EqAt.str_int x t j u _ _ _ _ h
     · rw [Jc] at h; exact wpAny_eqBool_str h
 «strs»:=fun k x t v h=>by
   rcases cQ h with ⟨i,u,rfl,e⟩ | ⟨y,u,rfl,e⟩
   · exact nomatch e
   · injection e with e1 _
     subst e1
     cases v <;> rfl
end L2
namespace L2
open PySem PySem.Spec PyProof.Rows
inductive V where
 | non | bl (b:Bool) | int (i:Int) | str (x:Str) | byt (b:Array UInt8) | flt (b:UInt64) | ref (a:Addr) | ty (n:String)
 deriving DecidableEq
noncomputable def RelV:V→Value→Prop
 | .non,u=>u=Value.none
 | .bl b,u=>u=Value.bool b
 | .int i,u=>∃ t,u=Value.int i t
 | .str x,u=>∃ t,u=Value.str x t
 | .byt b,u=>∃ t,u=Value.bytes b t
 | .flt b,u=>∃ t,u=Value.float b t
 | .ref a,u=>u=Value.ref a
 | .ty n,u=>u=Value.type n
noncomputable abbrev Vals:List V→List Value→Prop:=Paired RelV
theorem Vals.length {xs:List V} {us:List Value} (r:Vals xs us):xs.length=us.length:=Paired.length r
theorem Vals.get:∀ {xs:List V} {us:List Value} {i:Nat} {x:V},Vals xs us→xs[i]?=some x→∃ u,us[i]?=some u∧RelV x u
 | _,_,_,_,.nil,e=>by simp at e
 | _,_,0,_,.cons r _,e=>by simp at e; subst e; exact ⟨_,rfl,r⟩
 | _,_,i + 1,x,.cons _ t,e=>by
   obtain ⟨u,h1,h2⟩:=Vals.get (i:=i) (x:=x) t (by simpa using e)
   exact ⟨u,by simpa using h1,h2⟩
theorem Vals.set {x:V} {u:Value} (r:RelV x u):∀ {xs:List V} {us:List Value} (i:Nat),Vals xs us→Vals (xs.set i x) (us.set i u)
 | _,_,_,.nil=>.nil
 | _,_,0,.cons _ t=>.cons r t
 | _,_,i + 1,.cons q t=>.cons q (Vals.set r i t)
theorem Vals.append:∀ {xs ys:List V} {us ws:List Value},Vals xs us→Vals ys ws→Vals (xs++ys) (us++ws)
 | _,_,_,_,.nil,s=>s
 | _,_,_,_,.cons r t,s=>.cons r (Vals.append t s)
theorem Vals.take:∀ {xs:List V} {us:List Value} (n:Nat),Vals xs us→Vals (xs.take n) (us.take n)
 | _,_,0,_=>.nil
 | _,_,_ + 1,.nil=>.nil
 | _,_,n + 1,.cons r t=>.cons r (Vals.take n t)
theorem Vals.drop:∀ {xs:List V} {us:List Value} (n:Nat),Vals xs us→Vals (xs.drop n) (us.drop n)
 | _,_,0,r=>r
 | _,_,_ + 1,.nil=>.nil
 | _,_,n + 1,.cons _ t=>Vals.drop n t
noncomputable def Kf:Option V→Option Value→Prop
 | some v,some u=>RelV v u
 | none,none=>True
 | _,_=>False
noncomputable def KV {κ:Type}:List (κ × V)→List (κ × Value)→Prop:=Paired fun (p:κ × V) (q:κ × Value)=>p.1=q.1∧RelV p.2 q.2
noncomputable def kV:Key→V
 | .inl i=>.int i
 | .inr x=>.str x
inductive HO where
 | lst (xs:List V)
 | tup (xs:List V)
 | dK (kvs:List (Key × V)) | dT (kvs:List (List Key × V))
 | set (S:Int→Bool) (n:Nat)
 | ins (C dx:Addr) (fs:List (Str × V))
 | own (x:Addr)
 | xd (fs:List (Str × V))
 | met (f x:Addr)
 | rng (lo hi:Int)
 | frz (o:Obj) (u:HO)
 | tbl (ps:Array Value)
 | ext (φ:Heap→Prop)
noncomputable abbrev Hp:=Addr→Option HO
noncomputable def upd (H:Hp) (a:Addr) (o:HO):Hp:=fun b=>if b=a then some o else H b
theorem dM {H:Hp} {a:Addr} {o:HO}:upd H a o a=some o:=by unfold upd; rw [if_pos rfl]
theorem aK {H:Hp} {a b:Addr} {o:HO} (h:b ≠ a):upd H a o b=H b:=by unfold upd; rw [if_neg h]
theorem aP {H:Hp} {a b:Addr} {o:HO} (h:H a=some o) (h':H b=none):a ≠ b:=by
 intro e; subst e; rw [h] at h'; cases h'
section
variable (P:Program) (w:World)
noncomputable def iA (H:Hp) (h:Heap) (a:Addr):HO→Prop
 | .lst xs=>xs.length≤sizeLine∧∃ (its:List Value) (n:Nat),Vals xs its∧h.get? a=some { cls:=.type "list",data:=.seq its.toArray n }
 | .tup xs=>xs.length≤sizeLine∧∃ its:List Value,Vals xs its∧IsTup h a its.toArray
 | .dK kvs=>kvs.length≤sizeLine∧(a == sysModules)=false∧∃ vs,KV kvs vs∧h.DictOf (zg P w) a vs
 | .dT kvs=>kvs.length≤sizeLine∧(a == sysModules)=false∧∃ xs:List (List Key × Addr × Value),
     Paired (fun (p:List Key × V) (q:List Key × Addr × Value)=>p.1=q.1∧H q.2.1=some (.tup (p.1.map kV))∧RelV p.2 q.2.2) kvs xs ∧
     ∃ o es ep,h.get? a=some o∧o.ExactDict∧o.data=.dict es ep∧es.toList=xs.map (entryOfKey (tupleKind (zg P w)))∧(xs.map (·.1)).Nodup
 | .set S n=>h.SetOf (intKind P w) a S n
 | .ins C dx fs=>H dx=some (.own a)∧fs.length≤1000∧dx ≠ a∧h.get? a=some (PySem.W.instObj C dx) ∧
     ∃ mA,h.Ns1 dx mA∧(∀ f,Kf (fs.lookup f) (mA f))∧PySem.Within mA (fs.map (·.1))
 | .own _=>∃ o,h.get? a=some o
 | .xd fs=>∃ mA,h.Ns1 a mA∧∀ f,Kf (fs.lookup f) (mA f)
 | .rng lo hi=>∃ t u v,h.get? a=some { cls:=.type "range",data:=.fields #[.int lo t,.int hi u,.int 1 v] }
 | .frz o u=>h.get? a=some o∧iA H h a u
 | .tbl ps=>h.get? a=some { cls:=.none,data:=.fields ps }
 | .met f x=>h.get? a=some (PySem.W.methodObj (.ref f) (.ref x))
 | .ext φ=>φ h∧(∃ o,h.get? a=some o)∧∀ h1 h2:Heap,φ h1→(∀ o,h1.get? a=some o→h2.get? a=some o)→φ h2
noncomputable def HOk (H:Hp) (h:Heap):Prop:=∀ a o,H a=some o→iA P w H h a o
end
section
variable {P:Program} {w:World} {H H':Hp} {h h':Heap} {a:Addr} {o:HO}
theorem iA.lt (x:iA P w H h a o):a < h.objs.size:=by
 cases o with
 | lst xs=>obtain ⟨_,_,_,_,e⟩:=x; exact Heap.lt_size e
 | tup xs=>obtain ⟨_,_,_,p⟩:=x; exact p.lt
 | dK kvs=>obtain ⟨_,_,_,_,o,_,_,e,_⟩:=x; exact Heap.lt_size e
 | dT kvs=>obtain ⟨_,_,_,_,o,_,_,e,_⟩:=x; exact Heap.lt_size e
 | set S n=>obtain ⟨o,_,_,_,e,_⟩:=x; exact Heap.lt_size e
 | ins C dx fs=>obtain ⟨_,_,_,e,_⟩:=x; exact Heap.lt_size e
 | own y=>obtain ⟨_,e⟩:=x; exact Heap.lt_size e
 | xd fs=>obtain ⟨_,⟨_,_,_,e,_⟩,_⟩:=x; exact Heap.lt_size e
 | rng lo hi=>obtain ⟨_,_,_,e⟩:=x; exact Heap.lt_size e
 | frz ob u=>obtain ⟨e,_⟩:=x; exact Heap.lt_size e
 | tbl ps=>exact Heap.lt_size (show h.get? a=some _ from x)
 | met f y=>exact Heap.lt_size (show h.get? a=some _ from x)
 | ext φ=>obtain ⟨_,⟨_,e⟩,_⟩:=x; exact Heap.lt_size e
theorem Paired.Ke {α β:Type} {F G:α→β→Prop}:∀ {l₁:List α} {l₂:List β},Paired F l₁ l₂→(∀ a b,F a b→G a b)→Paired G l₁ l₂
 | _,_,.nil,_=>.nil
 | _,_,.cons r t,f=>.cons (f _ _ r) (Paired.Ke t f)
theorem iA.mx (x:iA P w H h a o) (k:∀ b u,(b=a∨H b=some (.own a))→h.get? b=some u→h'.get? b=some u)
   (ho:∀ b,H b=some (.own a)→H' b=some (.own a)) (ht:∀ b xs,H b=some (.tup xs)→H' b=some (.tup xs)):iA P w H' h' a o:=by
 induction o with
 | lst xs=>obtain ⟨z,its,n,r,e⟩:=x; exact ⟨z,its,n,r,k _ _ (.inl rfl) e⟩
 | tup xs=>obtain ⟨z,its,r,ob,e,c⟩:=x; exact ⟨z,its,r,ob,k _ _ (.inl rfl) e,c⟩
 | dK kvs=>obtain ⟨z,y,vs,r,ob,es,ep,e,c⟩:=x; exact ⟨z,y,vs,r,ob,es,ep,k _ _ (.inl rfl) e,c⟩
 | dT kvs=>
   obtain ⟨z,y,xs,r,ob,es,ep,e,c⟩:=x
   exact ⟨z,y,xs,Paired.Ke r fun p q z=>⟨z.1,ht _ _ z.2.1,z.2.2⟩,ob,es,ep,k _ _ (.inl rfl) e,c⟩
 | set S n=>obtain ⟨ob,es,ep,t,e,c⟩:=x; exact ⟨ob,es,ep,t,k _ _ (.inl rfl) e,c⟩
 | ins C dx fs=>
   obtain ⟨d,z,ne,e,mA,⟨od,es,ep,e2,c⟩,r⟩:=x
   exact ⟨ho _ d,z,ne,k _ _ (.inl rfl) e,mA,⟨od,es,ep,k _ _ (.inr d) e2,c⟩,r⟩
 | own y=>obtain ⟨ob,e⟩:=x; exact ⟨ob,k _ _ (.inl rfl) e⟩
 | xd fs=>obtain ⟨mA,⟨od,es,ep,e,c⟩,r⟩:=x; exact ⟨mA,⟨od,es,ep,k _ _ (.inl rfl) e,c⟩,r⟩
 | rng lo hi=>obtain ⟨t,u,v,e⟩:=x; exact ⟨t,u,v,k _ _ (.inl rfl) e⟩
 | frz ob u ih=>obtain ⟨e,q⟩:=x; exact ⟨k _ _ (.inl rfl) e,ih q⟩
 | tbl ps=>
   have e:h.get? a=some { cls:=.none,data:=.fields ps }:=x
   show h'.get? a=some { cls:=.none,data:=.fields ps }
   exact k a _ (.inl rfl) e
 | met f y=>
   have e:h.get? a=some (PySem.W.methodObj (.ref f) (.ref y)):=x
   show h'.get? a=some (PySem.W.methodObj (.ref f) (.ref y))
   exact k a _ (.inl rfl) e
 | ext φ=>obtain ⟨p,⟨o,e⟩,st⟩:=x; exact ⟨st _ _ p fun o q=>k _ _ (.inl rfl) q,⟨o,k _ _ (.inl rfl) e⟩,st⟩
theorem HOk.lt (x:HOk P w H h) (e:H a=some o):a < h.objs.size:=(x a o e).lt
theorem HOk.fresh (x:HOk P w H h) (e:h.objs.size≤a):H a=none:=by
 cases q:H a with
 | none=>rfl
 | some u=>exact absurd (Nat.lt_of_lt_of_le (x.lt q) e) (Nat.lt_irrefl _)
theorem HOk.kept (x:HOk P w H h) (k:∀ b u,h.get? b=some u→h'.get? b=some u):HOk P w H h':=fun a o e=>
 (x a o e).mx (fun b u _ q=>k b u q) (fun _ q=>q) fun _ _ q=>q
theorem HOk.laid (x:HOk P w H h) (k:∀ b u,h.get? b=some u→h'.get? b=some u) (hp:h.objs.size≤a) (new:iA P w (upd H a o) h' a o):HOk P w (upd H a o) h':=fun b u e=>by
 have hn:=x.fresh hp
 by_cases hb:b=a
 · subst hb; rw [dM] at e; cases e; exact new
 · rw [aK hb] at e
   exact (x b u e).mx (fun c v _ q=>k c v q) (fun c q=>by rw [aK (aP q hn)]; exact q) fun c xs q=>by rw [aK (aP q hn)]; exact q
end
noncomputable def Rd (H:Hp) (a:Addr) (u:HO):Prop:=H a=some u∨∃ o,H a=some (.frz o u)
theorem Rd.ok {P:Program} {w:World} {H:Hp} {h:Heap} {a:Addr} {u:HO} (r:Rd H a u) (x:HOk P w H h):iA P w H h a u:=by
 rcases r with r | ⟨o,r⟩
 · exact x a u r
 · obtain ⟨_,q⟩:=x a _ r
   exact q
noncomputable def Mut:Option HO→Prop
 | some (.lst _)=>True
 | some (.dK _)=>True
 | some (.dT _)=>True
 | some (.set _ _)=>True
 | some (.ins _ _ _)=>True
 | some (.ext _)=>True
 | _=>False
section
variable {P:Program} {w:World} {H:Hp} {h h':Heap} {x e:Addr} {o':HO}
theorem HOk.write (ok:HOk P w H h) (mu:Mut (H x)) (he:e=x∨H e=some (.own x)) (k:∀ b u,b ≠ e→h.get? b=some u→h'.get? b=some u) (heo:∃ u,h'.get? e=some u)
   (new:iA P w (upd H x o') h' x o'):HOk P w (upd H x o') h':=fun b u q=>by
 have nown:∀ c y,H c=some (.own y)→c ≠ x:=fun c y r z=>by subst z; rw [r] at mu; exact mu
 have ntup:∀ c xs,H c=some (.tup xs)→c ≠ x:=fun c xs r z=>by subst z; rw [r] at mu; exact mu
 by_cases hb:b=x
 · subst hb; rw [dM] at q; cases q; exact new
 · rw [aK hb] at q
   by_cases hbe:b=e
   · have q':H b=some (.own x):=by
       rcases he with z | z
       · exact absurd (hbe.trans z) hb
       · rw [hbe]; exact z
     rw [q] at q'; cases q'
     obtain ⟨v,hv⟩:=heo
     exact ⟨v,by rw [hbe]; exact hv⟩
   · refine (ok b u q).mx (fun c v hc r=>k c v ?_ r) (fun c r=>by rw [aK (nown c b r)]; exact r) fun c xs r=>by rw [aK (ntup c xs r)]; exact r
     rcases hc with rfl | hc
     · exact hbe
     · rintro rfl
       rcases he with z | z
       · exact nown c b hc z
       · rw [hc] at z; cases z; exact hb rfl
end
structure Un (fs ex:List Addr) (H H':Hp) (h h':Heap):Prop where
 keep:∀ b o,h.get? b=some o→H b=none→b ∉ fs→b ∉ ex→h'.get? b=some o
 slot:∀ b o,h.get? b=some o→H b=none→b ∈ fs→b ∉ ex→∃ sl,h'.get? b=some { o with slots:=sl }
 free:∀ b o,h.get? b=some o→H b=none→b ∉ ex→H' b=none
 there:∀ b o,h.get? b=some o→b ∉ ex→∃ o',h'.get? b=some o'
 tups:∀ b xs,H b=some (.tup xs)→H' b=some (.tup xs)
 frzs:∀ b o u,H b=some (.frz o u)→H' b=some (.frz o u)
 tbls:∀ b ps,H b=some (.tbl ps)→∃ more,H' b=some (.tbl (ps++more))
section
variable {fs fs' ex ex':List Addr} {H H1 H2:Hp} {h h1 h2 h':Heap} {a x e:Addr} {o:HO}
theorem Un.any (u:Un fs ex H H1 h h1) {b:Addr} {ob:Obj} (q:h.get? b=some ob) (n:H b=none) (hx:b ∉ ex):∃ sl,h1.get? b=some { ob with slots:=sl }:=by
 by_cases hb:b ∈ fs
 · exact u.slot b ob q n hb hx
 · exact ⟨ob.slots,u.keep b ob q n hb hx⟩
theorem Un.kept (k:∀ b u,h.get? b=some u→h'.get? b=some u):Un fs ex H H h h':=
 ⟨fun b ob q _ _ _=>k b ob q,fun b ob q _ _ _=>⟨ob.slots,k b ob q⟩,fun _ _ _ n _=>n,fun b ob q _=>⟨ob,k b ob q⟩,fun _ _ q=>q,fun _ _ _ q=>q,fun _ ps q=>⟨#[],by rw [q]; simp⟩⟩
theorem Un.refl:Un fs ex H H h h:=Un.kept fun _ _ q=>q
theorem Un.laid (k:∀ b u,h.get? b=some u→h'.get? b=some u) (hp:h.objs.size≤a) (hn:H a=none):Un fs ex H (upd H a o) h h' where
 keep:=fun b u q _ _ _=>k b u q
 slot:=fun b u q _ _ _=>⟨u.slots,k b u q⟩
 free:=fun b u q n _=>by rw [aK (Nat.ne_of_lt (Nat.lt_of_lt_of_le (Heap.lt_size q) hp))]; exact n
 there:=fun b u q _=>⟨u,k b u q⟩
 tups:=fun b xs q=>by rw [aK (aP q hn)]; exact q
 frzs:=fun b u xs q=>by rw [aK (aP q hn)]; exact q
 tbls:=fun b ps q=>⟨#[],by rw [aK (aP q hn),q]; simp⟩
theorem Un.write (mu:Mut (H x)) (he:e=x∨H e=some (.own x)) (k:∀ b u,b ≠ e→h.get? b=some u→h'.get? b=some u) (heo:∃ u,h'.get? e=some u):Un fs ex H (upd H x o) h h':=by
 have hx:∀ b,H b=none→b ≠ x:=fun b n z=>by subst z; rw [n] at mu; exact mu
 have hb:∀ b,H b=none→b ≠ e:=fun b n z=>by
   subst z
   rcases he with r | r
   · exact hx b n r
   · rw [n] at r; cases r
 have hm:∀ b u,H b=some u→¬ Mut (some u)→b ≠ x:=fun b u q nm z=>by subst z; rw [q] at mu; exact nm mu
 refine ⟨fun b u q n _ _=>k b u (hb b n) q,fun b u q n _ _=>⟨u.slots,k b u (hb b n) q⟩,fun b u q n _=>by rw [aK (hx b n)]; exact n,fun b u q _=>?_,
   fun b xs q=>by rw [aK (hm b _ q fun z=>z)]; exact q,fun b u xs q=>by rw [aK (hm b _ q fun z=>z)]; exact q,fun b ps q=>⟨#[],by rw [aK (hm b _ q fun z=>z),q]; simp⟩⟩
 by_cases hbe:b=e
 · subst hbe; exact heo
 · exact ⟨u,k b u hbe q⟩
end
noncomputable def trk (h:Heap) (H:Hp):List Addr:=(List.range h.objs.size).filter fun a=>(H a).isSome
noncomputable def tM (h:Heap) (H:Hp):Heap:=PySem.W.hideAll h (trk h H)
theorem Aj (h:Heap) (H:Hp):(tM h H).objs.size=h.objs.size:=PySem.W.hideAll_size _ _
theorem B8 {h:Heap} {H:Hp} {b:Addr} {o:Obj} (e:h.get? b=some o) (n:H b=none):(tM h H).get? b=some o:=
 PySem.W.hideAll_get _ e fun hm=>by
   have q:(H b).isSome=true:=(List.mem_filter.mp hm).2
   rw [n] at q; simp at q
theorem DS {h:Heap} {H:Hp} {b:Addr} {o:Obj} (e:(tM h H).get? b=some o):h.get? b=some o∧H b=none:=by
 have e':h.get? b=some o:=PySem.W.of_hideAll (trk h H) e
 refine ⟨e',?_⟩
 cases q:H b with
 | none=>rfl
 | some x=>
   have hm:b ∈ trk h H:=List.mem_filter.mpr ⟨List.mem_range.mpr (Heap.lt_size e'),by simp [q]⟩
   have z:(tM h H).get? b=none:=PySem.W.hideAll_none (trk h H) hm
   rw [z] at e; cases e
noncomputable def E7 (g h:Heap) (L:Addr):List (Addr × Obj):=(List.range h.objs.size).filterMap fun a=>if a=L∨(g.get? a).isSome=true then none else (h.get? a).map fun o=>(a,o)
noncomputable def rest (g h:Heap) (L d:Addr):List (Addr × Obj):=(E7 g h L).filter fun p=>decide (p.1 ≠ d)
end L2
namespace L2
open PySem PySem.Spec PyProof.Rows
structure Mod (K:PySem.W.Frag) (mg:Str→Option Value) (base:Heap):Prop where
 kin:K.In base
 glob:base.Ns mainGlobals mg
 blt:∃ mb,base.Ns builtinsNs mb∧∀ x:Str,x ≠ "__name__" → mb x=bootBuiltins x
 nolimit:base.NoLimit
structure Cx where
 prog:Program
 w:World
 K:PySem.W.Frag
 mg:Str→Option Value
 base:Heap
 A:Around
 N:List Str
 s₀:Shared
 H₀:Hp
 env:Env
 outer:List Env
 stack:List Env
 ex:List Addr
 fn:Str→Bool
 calm:Bool
 pn:List (Addr × Obj)
 xe:Value→Shared→Prop
noncomputable def frs (l:List Env):List Addr:=l.filterMap (·.frame)
noncomputable abbrev Cx.fs (X:Cx):List Addr:=frs X.outer
noncomputable def Vis (sc:Scope) (x:Str):Prop:=sc.names.lookup x=some .local∨sc.names.lookup x=some .cell∨sc.names.lookup x=some .free
noncomputable def Loc (sc:Scope) (x:Str):Prop:=sc.names.lookup x=some .local∨sc.names.lookup x=some .cell
noncomputable def Look (env:Env) (h:Heap) (m:Str→Option Value) (x:Str) (u:Value):Prop:=
 (env.kindOf x=some .local∧m x=some u)∨((env.kindOf x=some .cell∨env.kindOf x=some .free)∧∃ c,env.cells.lookup x=some c∧h.IsCell c (some u))
structure Cx.Ok (X:Cx):Prop where
 mod:Mod X.K X.mg X.base
 kind:X.env.scope.kind=.function
 glob:X.env.globals=mainGlobals
 blt:X.env.builtins=builtinsNs
 above:X.s₀.heap.objs.size≤X.env.locals
 inj:∀ x y c,X.env.cells.lookup x=some c→X.env.cells.lookup y=some c→x=y
 has:∀ x,(X.env.kindOf x=some .cell∨X.env.kindOf x=some .free)→∃ c,X.env.cells.lookup x=some c
 cab:∀ x c,X.fn x=true→X.env.cells.lookup x=some c→X.s₀.heap.objs.size≤c
 hd:X.calm=true→X.A.handled=none
 frames:X.A.frames=some X.stack
 stk:X.stack=X.outer∨(X.stack=X.env :: X.outer∧X.env.frame=some X.env.locals)
 exf:∀ b ∈ X.ex,b ≠ X.env.locals∧∀ x c,X.env.cells.lookup x=some c→c ≠ b
 bs:∀ b o,X.base.get? b=some o→X.s₀.heap.get? b=some o∧X.H₀ b=none
 bsz:X.base.objs.size≤X.s₀.heap.objs.size
 noex:∀ b o,X.base.get? b=some o→b ∉ X.ex
 exfs:∀ b ∈ X.ex,b ∉ X.fs
 qU:X.s₀.heap.FunFrames X.base X.outer
 frf:∀ b ∈ X.fs,X.H₀ b=none
structure Inv (X:Cx) (pins:List (Addr × Obj)) (σ:List (Option V)) (H:Hp) (s:Shared):Prop where
 ok:X.Ok
 os:s.os=X.s₀.os
 bare:AllBare s.gens
 base:Un X.fs X.ex X.H₀ H X.s₀.heap s.heap
 loc:∃ m,s.heap.Ns X.env.locals m∧∀ (i:Nat) (x:Str) (v:V),X.N[i]?=some x→σ[i]?=some (some v)→Vis X.env.scope x→∃ u,RelV v u∧Look X.env s.heap m x u
 cell:∀ x c,X.env.cells.lookup x=some c→∃ v,s.heap.IsCell c v
 free:H X.env.locals=none
 freeC:∀ x c,X.env.cells.lookup x=some c→H c=none
 pin:∀ p ∈ X.pn++pins,s.heap.get? p.1=some p.2∧H p.1=none∧p.1 ≠ X.env.locals∧p.1 ∉ X.fs∧∀ v,p.2.data ≠ .cell v
 hok:HOk X.prog X.w H s.heap
 len:σ.length=X.N.length
section
variable {X:Cx} {pins:List (Addr × Obj)} {σ:List (Option V)} {H H':Hp} {s:Shared} {h':Heap}
theorem Cx.Ok.LJ (ok:X.Ok) {b:Addr} {o:Obj} (e:X.base.get? b=some o):b ∉ X.fs:=fun hb=>by
 have:=(ok.qU.mem hb).1
 rw [e] at this; cases this
theorem Inv.bs (I:Inv X pins σ H s):∀ b o,X.base.get? b=some o→s.heap.get? b=some o∧H b=none:=fun b o e=>
 ⟨I.base.keep b o (I.ok.bs b o e).1 (I.ok.bs b o e).2 (I.ok.LJ e) (I.ok.noex b o e),I.base.free b o (I.ok.bs b o e).1 (I.ok.bs b o e).2 (I.ok.noex b o e)⟩
theorem Inv.bk (I:Inv X pins σ H s):∀ b o,X.base.get? b=some o→s.heap.get? b=some o:=fun b o e=>(I.bs b o e).1
theorem Inv.mod (I:Inv X pins σ H s):Mod X.K X.mg X.base:=I.ok.mod
theorem Inv.kIn (I:Inv X pins σ H s):X.K.In s.heap:=I.ok.mod.kin.keeps I.bk
theorem Inv.lt (I:Inv X pins σ H s):X.env.locals < s.heap.objs.size:=let ⟨_,hn,_⟩:=I.loc; hn.lt
theorem Inv.sz (I:Inv X pins σ H s):X.s₀.heap.objs.size≤s.heap.objs.size:=Nat.le_trans I.ok.above (Nat.le_of_lt I.lt)
theorem Inv.Mf (I:Inv X pins σ H s) {a:Addr} (h:s.heap.objs.size≤a):a ∉ X.fs:=fun hb=>by
 obtain ⟨_,o,ho,_⟩:=I.ok.qU.mem hb
 exact absurd (Nat.lt_of_lt_of_le (Heap.lt_size ho) (Nat.le_trans I.sz h)) (Nat.lt_irrefl _)
theorem Inv.cne (I:Inv X pins σ H s):∀ x c,X.env.cells.lookup x=some c→c ≠ X.env.locals:=fun x c e z=>by
 obtain ⟨v,o,ho,hd⟩:=I.cell x c e
 obtain ⟨m,⟨o',es,ep,ho',hd',_⟩,_⟩:=I.loc
 rw [z,ho'] at ho; cases ho; rw [hd'] at hd; cases hd
theorem Inv.qU (I:Inv X pins σ H s):s.heap.FunFrames X.base X.outer:=by
 have all:∀ (l:List Env),(∀ b ∈ frs l,b ∈ X.fs)→X.s₀.heap.FunFrames X.base l→s.heap.FunFrames X.base l:=by
   intro l
   induction l with
   | nil=>intro _ _; trivial
   | cons env r ih=>
     intro hs hl
     obtain ⟨hk,⟨L,o,hf,hn,ho,hd⟩,hr⟩:=hl
     have hL:L ∈ X.fs:=hs L (by unfold frs; rw [List.filterMap_cons,hf]; exact List.mem_cons_self)
     obtain ⟨sl,e⟩:=I.base.slot L o ho (I.ok.frf L hL) hL fun z=>I.ok.exfs L z hL
     exact ⟨hk,⟨L,_,hf,hn,e,hd⟩,ih (fun b hb=>hs b (by unfold frs; rw [List.filterMap_cons,hf]; exact List.mem_cons_of_mem _ hb)) hr⟩
 exact all X.outer (fun _ hb=>hb) I.ok.qU
theorem Inv.stack (I:Inv X pins σ H s):s.heap.FunFrames X.base X.stack:=by
 rcases I.ok.stk with e | ⟨e,hf⟩
 · rw [e]; exact I.qU
 · rw [e]
   obtain ⟨m,hn,_⟩:=I.loc
   refine .cons (by rw [I.ok.kind]; decide) hf hn ?_ I.qU
   exact Heap.get?_none_of_le (Nat.le_trans I.ok.bsz I.ok.above)
theorem Inv.yq (I:Inv X pins σ H s):∀ b ∈ frs X.stack,b ∈ X.env.locals :: X.fs:=fun b hb=>by
 rcases I.ok.stk with e | ⟨e,hf⟩
 · rw [e] at hb; exact List.mem_cons_of_mem _ hb
 · rw [e] at hb
   unfold frs at hb
   rw [List.filterMap_cons,hf] at hb
   exact hb
theorem Inv.zo (I:Inv X pins σ H s):∀ b ∈ frs X.stack,H b=none:=fun b hb=>by
 rcases List.mem_cons.mp (I.yq b hb) with e | hb
 · rw [e]; exact I.free
 · obtain ⟨_,o,ho,_⟩:=I.ok.qU.mem hb
   exact I.base.free b o ho (I.ok.frf b hb) fun z=>I.ok.exfs b z hb
theorem Inv.step {g':Array GenState} {t':Nat} {d':Drawn} {ch:List Addr} (I:Inv X pins σ H s)
   (hch:∀ b ∈ ch,(b ∈ X.ex∨X.s₀.heap.objs.size≤b)∧b ≠ X.env.locals∧(∀ x c,X.env.cells.lookup x=some c→c ≠ b)∧∀ p ∈ X.pn++pins,p.1 ≠ b)
   (keep:∀ b o,b ≠ X.env.locals→b ∉ X.fs→b ∉ ch→s.heap.get? b=some o→H b=none→h'.get? b=some o)
   (slot:∀ b o,b ≠ X.env.locals→b ∈ X.fs→b ∉ ch→s.heap.get? b=some o→H b=none→∃ sl,h'.get? b=some { o with slots:=sl }) (free:∀ b o,b ∉ ch→s.heap.get? b=some o→H b=none→H' b=none)
   (there:∀ b o,b ∉ ch→s.heap.get? b=some o→∃ o',h'.get? b=some o')
   (tups:∀ b xs,H b=some (.tup xs)→H' b=some (.tup xs)) (frzs:∀ b o u,H b=some (.frz o u)→H' b=some (.frz o u)) (tbls:∀ b ps,H b=some (.tbl ps)→∃ more,H' b=some (.tbl (ps++more)))
   (ns:∀ m,s.heap.Ns X.env.locals m→h'.Ns X.env.locals m) (hok:HOk X.prog X.w H' h') (hg:AllBare g') :
   Inv X pins σ H' { s with heap:=h',gens:=g',drawn:=d',toks:=t' }:=by
 have neL:∀ b o,X.s₀.heap.get? b=some o→b ≠ X.env.locals:=fun b o e=>Nat.ne_of_lt (Nat.lt_of_lt_of_le (Heap.lt_size e) I.ok.above)
 have neC:∀ b o,X.s₀.heap.get? b=some o→b ∉ X.ex→b ∉ ch:=fun b o e hx hb=>by
   rcases (hch b hb).1 with z | z
   · exact hx z
   · exact absurd (Nat.lt_of_lt_of_le (Heap.lt_size e) z) (Nat.lt_irrefl _)
 have cellK:∀ x c,X.env.cells.lookup x=some c→∀ v,s.heap.IsCell c v→h'.IsCell c v:=fun x c e v ⟨o,ho,hd⟩=>by
   have nch:c ∉ ch:=fun z=>(hch c z).2.2.1 x c e rfl
   by_cases hc:c ∈ X.fs
   · obtain ⟨sl,q⟩:=slot c o (I.cne x c e) hc nch ho (I.freeC x c e)
     exact ⟨_,q,hd⟩
   · exact ⟨o,keep c o (I.cne x c e) hc nch ho (I.freeC x c e),hd⟩
 refine ⟨I.ok,I.os,hg,⟨fun b o e n hb hx=>?_,fun b o e n hb hx=>?_,fun b o e n hx=>?_,fun b o e hx=>?_,fun b xs e=>tups b xs (I.base.tups b xs e),fun b o xs e=>frzs b o xs (I.base.frzs b o xs e),fun b ps e=>?_⟩,?_,fun x c e=>?_,?_,fun x c e=>?_,fun p hp=>?_,hok,I.len⟩
 · exact keep b o (neL b o e) hb (neC b o e hx) (I.base.keep b o e n hb hx) (I.base.free b o e n hx)
 · obtain ⟨sl,e1⟩:=I.base.slot b o e n hb hx
   obtain ⟨sl',e2⟩:=slot b _ (neL b o e) hb (neC b o e hx) e1 (I.base.free b o e n hx)
   exact ⟨sl',e2⟩
 · obtain ⟨o',e1⟩:=I.base.there b o e hx
   exact free b o' (neC b o e hx) e1 (I.base.free b o e n hx)
 · obtain ⟨o',e1⟩:=I.base.there b o e hx
   exact there b o' (neC b o e hx) e1
 · obtain ⟨m1,e1⟩:=I.base.tbls b ps e
   obtain ⟨m2,e2⟩:=tbls b _ e1
   exact ⟨m1++m2,by rw [e2,Array.append_assoc]⟩
 · obtain ⟨m,hn,hl⟩:=I.loc
   refine ⟨m,ns m hn,fun i x v e1 e2 e3=>?_⟩
   obtain ⟨u,r,l⟩:=hl i x v e1 e2 e3
   refine ⟨u,r,?_⟩
   rcases l with l | ⟨k,c,e,z⟩
   · exact .inl l
   · exact .inr ⟨k,c,e,cellK x c e _ z⟩
 · obtain ⟨v,z⟩:=I.cell x c e
   exact ⟨v,cellK x c e v z⟩
 · obtain ⟨m,⟨o,_,_,ho,_⟩,_⟩:=I.loc
   exact free _ o (fun z=>(hch _ z).2.1 rfl) ho I.free
 · obtain ⟨v,o,ho,hd⟩:=I.cell x c e
   exact free c o (fun z=>(hch c z).2.2.1 x c e rfl) ho (I.freeC x c e)
 · obtain ⟨e,n,ne,nf,d⟩:=I.pin p hp
   have nch:p.1 ∉ ch:=fun z=>(hch p.1 z).2.2.2 p hp rfl
   exact ⟨keep p.1 p.2 ne nf nch e n,free p.1 p.2 nch e n,ne,nf,d⟩
theorem Inv.un {t':Nat} (I:Inv X pins σ H s) (u:Un X.fs [] H H' s.heap h') (hok:HOk X.prog X.w H' h'):Inv X pins σ H' { s with heap:=h',toks:=t' }:=by
 obtain ⟨m,⟨o,es,ep,ho,r⟩,_⟩:=id I.loc
 obtain ⟨sl,hL⟩:=u.any ho I.free (by simp)
 exact I.step (g':=s.gens) (d':=s.drawn) (ch:=[]) (fun _ z=>nomatch z) (fun b o _ hb _ e n=>u.keep b o e n hb (by simp)) (fun b o _ hb _ e n=>u.slot b o e n hb (by simp)) (fun b o _ e n=>u.free b o e n (by simp)) (fun b o _ e=>u.there b o e (by simp)) u.tups u.frzs u.tbls (fun m' hm=>by
   obtain ⟨o',es',ep',ho',r'⟩:=hm
   rw [ho] at ho'; cases ho'
   exact ⟨_,es',ep',hL,r'⟩) hok I.bare
theorem Inv.call {g':Array GenState} {t':Nat} {d':Drawn} {ch:List Addr} (I:Inv X pins σ H s) (u:Un (frs X.stack) ch H H' s.heap h') (hok:HOk X.prog X.w H' h') (hg:AllBare g')
   (hch:∀ b ∈ ch,(b ∈ X.ex∨X.s₀.heap.objs.size≤b)∧b ≠ X.env.locals∧(∀ x c,X.env.cells.lookup x=some c→c ≠ b)∧∀ p ∈ X.pn++pins,p.1 ≠ b) :
   Inv X pins σ H' { s with heap:=h',gens:=g',drawn:=d',toks:=t' }:=by
 obtain ⟨m,⟨o,es,ep,ho,r⟩,_⟩:=id I.loc
 obtain ⟨sl,hL⟩:=u.any ho I.free fun z=>(hch _ z).2.1 rfl
 exact I.step (ch:=ch) hch (fun b o hL hb hc e n=>u.keep b o e n (fun z=>(List.mem_cons.mp (I.yq b z)).elim hL hb) hc) (fun b o _ _ hc e n=>u.any e n hc) (fun b o hc e n=>u.free b o e n hc) (fun b o hc e=>u.there b o e hc) u.tups u.frzs u.tbls (fun m' hm=>by
   obtain ⟨o',es',ep',ho',r'⟩:=hm
   rw [ho] at ho'; cases ho'
   exact ⟨_,es',ep',hL,r'⟩) hok hg
theorem Inv.turned {t':Nat} {it:Addr} (I:Inv X pins σ H s) (k:∀ b o,b ≠ it→s.heap.get? b=some o→h'.get? b=some o) (hn:H it=none) (hL:it ≠ X.env.locals)
   (h1:it ∈ X.ex∨X.s₀.heap.objs.size≤it) (h2:∀ x c,X.env.cells.lookup x=some c→c ≠ it) (h3:∀ p ∈ X.pn++pins,p.1 ≠ it):Inv X pins σ H { s with heap:=h',toks:=t' }:=by
 have nit:∀ b u,H b=some u→b ≠ it:=fun b u e z=>by rw [z,hn] at e; cases e
 refine I.step (g':=s.gens) (d':=s.drawn) (ch:=[it]) (fun b hb=>?_) (fun b o _ _ hc e _=>k b o (fun z=>hc (by simp [z])) e) (fun b o _ _ hc e _=>⟨o.slots,k b o (fun z=>hc (by simp [z])) e⟩) (fun _ _ _ _ n=>n)
   (fun b o hc e=>⟨o,k b o (fun z=>hc (by simp [z])) e⟩) (fun _ _ e=>e) (fun _ _ _ e=>e) (fun b ps e=>⟨#[],by rw [e]; simp⟩) (fun m hm=>?_) (fun b u e=>?_) I.bare
 · have e:b=it:=by simpa using hb
   subst e
   exact ⟨h1,hL,h2,h3⟩
 · obtain ⟨o,es,ep,ho,r⟩:=hm
   exact ⟨o,es,ep,k _ o (Ne.symm hL) ho,r⟩
 · refine (I.hok b u e).mx (fun c v hc q=>k c v ?_ q) (fun _ q=>q) fun _ _ q=>q
   rcases hc with z | z
   · rw [z]; exact nit b u e
   · exact nit c _ z
theorem Inv.tok (I:Inv X pins σ H s) (t:Nat):Inv X pins σ H { s with toks:=t }:=I.un (h':=s.heap) (t':=t) Un.refl I.hok
theorem Inv.kept {t':Nat} (I:Inv X pins σ H s) (k:∀ b u,s.heap.get? b=some u→h'.get? b=some u):Inv X pins σ H { s with heap:=h',toks:=t' }:=I.un (Un.kept k) (I.hok.kept k)
theorem Inv.laid {a:Addr} {o:HO} {t':Nat} (I:Inv X pins σ H s) (k:∀ b u,s.heap.get? b=some u→h'.get? b=some u) (hp:s.heap.objs.size≤a) (new:iA X.prog X.w (upd H a o) h' a o) :
   Inv X pins σ (upd H a o) { s with heap:=h',toks:=t' }:=I.un (Un.laid k hp (I.hok.fresh hp)) (I.hok.laid k hp new)
theorem Inv.write {x e:Addr} {o:HO} {t':Nat} (I:Inv X pins σ H s) (mu:Mut (H x)) (he:e=x∨H e=some (.own x)) (k:∀ b u,b ≠ e→s.heap.get? b=some u→h'.get? b=some u) (heo:∃ u,h'.get? e=some u)
   (new:iA X.prog X.w (upd H x o) h' x o):Inv X pins σ (upd H x o) { s with heap:=h',toks:=t' }:=I.un (Un.write mu he k heo) (I.hok.write mu he k heo new)
theorem Inv.yW {pins':List (Addr × Obj)} (I:Inv X pins σ H s) (h:∀ p ∈ pins',s.heap.get? p.1=some p.2∧H p.1=none∧p.1 ≠ X.env.locals∧p.1 ∉ X.fs∧∀ v,p.2.data ≠ .cell v):Inv X pins' σ H s:=
 ⟨I.ok,I.os,I.bare,I.base,I.loc,I.cell,I.free,I.freeC,fun p hp=>(List.mem_append.mp hp).elim (fun z=>I.pin p (List.mem_append_left _ z)) (h p),I.hok,I.len⟩
theorem wq {N:List Str} (hN:N.Nodup) {i j:Nat} {x:Str} (a:N[i]?=some x) (b:N[j]?=some x):i=j:=by
 obtain ⟨h1,e1⟩:=List.getElem?_eq_some_iff.mp a
 obtain ⟨h2,e2⟩:=List.getElem?_eq_some_iff.mp b
 exact (List.getElem_inj hN).mp (e1.trans e2.symm)
theorem Az {M:Model} {A:Around} {E:Value→Shared→Prop} {i:Nat} {x:Str} {v:V} {u:Value} {Q:Unit→Shared→Prop} (I:Inv X pins σ H s) (hN:X.N.Nodup) (hi:X.N[i]?=some x) (hx:Loc X.env.scope x) (r:RelV v u)
   (h:∀ s',Inv X pins (σ.set i (some v)) H s'→(∃ a,Heap.SameBut a s.heap s'.heap∧(a=X.env.locals∨X.env.cells.lookup x=some a))→Q () s') (hf:X.fn x=true∨X.env.scope.names.lookup x=some .local:=by first | exact .inl rfl | exact .inr rfl | assumption):wpAny M A (storeName X.env x u) Q E s:=by
 obtain ⟨m,hn,hl⟩:=id I.loc
 have hcls:(X.env.scope.kind == .class || (X.env.scope.kind == .module && X.env.locals != X.env.globals))=false:=by rw [I.ok.kind]; rfl
 have hiσ:i < σ.length:=by rw [I.len]; exact (List.getElem?_eq_some_iff.mp hi).1
 have cne:=I.cne
 have tracked:∀ {a:Addr} {h':Heap},(∃ o,s.heap.get? a=some o∧H a=none)→Heap.SameBut a s.heap h'→HOk X.prog X.w H h':=fun {a h'} ha hs b ob e=>by
   obtain ⟨_,_,hfree⟩:=ha
   refine (I.hok b ob e).mx (fun c w' hc q=>(hs.2 c ?_).trans q) (fun _ q=>q) fun _ _ q=>q
   rintro rfl
   rcases hc with rfl | hc
   · rw [hfree] at e; cases e
   · rw [hfree] at hc; cases hc
 rcases hx with hk | hk
 · refine wpAny_storeName_local hk hn (fun h' hn' hs=>?_) hcls
   obtain ⟨oL,_,_,hoL,_⟩:=id hn
   refine h _ ⟨I.ok,I.os,I.bare,⟨fun b o e n hb hx=>?_,fun b o e n hb hx=>?_,I.base.free,fun b o e hx=>?_,I.base.tups,I.base.frzs,I.base.tbls⟩,⟨_,hn',fun j y v' e1 e2 e3=>?_⟩,fun y c e=>?_,I.free,I.freeC,fun p hp=>?_,tracked ⟨oL,hoL,I.free⟩ hs,by simpa using I.len⟩ ⟨_,hs,.inl rfl⟩
   · exact (hs.2 b (Nat.ne_of_lt (Nat.lt_of_lt_of_le (Heap.lt_size e) I.ok.above))).trans (I.base.keep b o e n hb hx)
   · obtain ⟨sl,e1⟩:=I.base.slot b o e n hb hx
     exact ⟨sl,(hs.2 b (Nat.ne_of_lt (Nat.lt_of_lt_of_le (Heap.lt_size e) I.ok.above))).trans e1⟩
   · obtain ⟨o',e1⟩:=I.base.there b o e hx
     exact ⟨o',(hs.2 b (Nat.ne_of_lt (Nat.lt_of_lt_of_le (Heap.lt_size e) I.ok.above))).trans e1⟩
   · by_cases hj:j=i
     · subst hj
       rw [hi] at e1; cases e1
       rw [List.getElem?_set_self hiσ] at e2
       cases e2
       exact ⟨u,r,.inl ⟨hk,by simp⟩⟩
     · rw [List.getElem?_set_ne (Ne.symm hj)] at e2
       obtain ⟨u',r',q⟩:=hl j y v' e1 e2 e3
       refine ⟨u',r',?_⟩
       rcases q with ⟨k,e⟩ | ⟨k,c,e,z⟩
       · refine .inl ⟨k,?_⟩
         have:y ≠ x:=fun e=>hj (wq hN e1 (e ▸ hi))
         simp [this,e]
       · exact .inr ⟨k,c,e,z.sameBut hs (cne y c e)⟩
   · obtain ⟨w',z⟩:=I.cell y c e
     exact ⟨w',z.sameBut hs (cne y c e)⟩
   · obtain ⟨e,n,ne,nf,d⟩:=I.pin p hp
     exact ⟨(hs.2 p.1 ne).trans e,n,ne,nf,d⟩
 · have hfn:X.fn x=true:=by
     rcases hf with z | z
     · exact z
     · rw [z] at hk; cases hk
   obtain ⟨c,hc⟩:=I.ok.has x (.inl hk)
   obtain ⟨w',z⟩:=I.cell x c hc
   refine wpAny_storeName_cell I.ok.kind hk hc z (fun h' hc' hs=>?_)
   obtain ⟨oc,hoc,hocd⟩:=id z
   refine h { s with heap:=h' } ⟨I.ok,I.os,I.bare,⟨fun b o e n hb hx=>?_,fun b o e n hb hx=>?_,I.base.free,fun b o e hx=>?_,I.base.tups,I.base.frzs,I.base.tbls⟩,⟨m,hn.sameBut hs (Ne.symm (cne x c hc)),fun j y v' e1 e2 e3=>?_⟩,fun y c' e=>?_,I.free,I.freeC,fun p hp=>?_,tracked ⟨oc,hoc,I.freeC x c hc⟩ hs,by simpa using I.len⟩ ⟨c,hs,.inr hc⟩
   · exact (hs.2 b (Nat.ne_of_lt (Nat.lt_of_lt_of_le (Heap.lt_size e) (I.ok.cab x c hfn hc)))).trans (I.base.keep b o e n hb hx)
   · obtain ⟨sl,e1⟩:=I.base.slot b o e n hb hx
     exact ⟨sl,(hs.2 b (Nat.ne_of_lt (Nat.lt_of_lt_of_le (Heap.lt_size e) (I.ok.cab x c hfn hc)))).trans e1⟩
   · obtain ⟨o',e1⟩:=I.base.there b o e hx
     exact ⟨o',(hs.2 b (Nat.ne_of_lt (Nat.lt_of_lt_of_le (Heap.lt_size e) (I.ok.cab x c hfn hc)))).trans e1⟩
   · by_cases hj:j=i
     · subst hj
       rw [hi] at e1; cases e1
       rw [List.getElem?_set_self hiσ] at e2
       cases e2
       exact ⟨u,r,.inr ⟨.inl hk,c,hc,hc'⟩⟩
     · rw [List.getElem?_set_ne (Ne.symm hj)] at e2
       obtain ⟨u',r',q⟩:=hl j y v' e1 e2 e3
       refine ⟨u',r',?_⟩
       rcases q with q | ⟨k,c',e,z'⟩
       · exact .inl q
       · refine .inr ⟨k,c',e,z'.sameBut hs ?_⟩
         rintro rfl
         exact hj (wq hN e1 (I.ok.inj _ _ _ e hc ▸ hi))
   · by_cases hcc:c'=c
     · subst hcc; exact ⟨_,hc'⟩
     · obtain ⟨w2,z2⟩:=I.cell y c' e
       exact ⟨w2,z2.sameBut hs hcc⟩
   · obtain ⟨e,n,ne,nf,d⟩:=I.pin p hp
     refine ⟨(hs.2 p.1 ?_).trans e,n,ne,nf,d⟩
     intro q
     rw [q,hoc] at e
     have q':oc=p.2:=Option.some.inj e
     exact d w' (by rw [← q']; exact hocd)
theorem Ds {M:Model} {A:Around} {E:Value→Shared→Prop} {i:Nat} {x:Str} {v:V} {u:Value} {Q:Unit→Shared→Prop} (I:Inv X pins σ H s) (hN:X.N.Nodup) (hi:X.N[i]?=some x) (hx:Loc X.env.scope x) (r:RelV v u)
   (h:∀ s',Inv X pins (σ.set i (some v)) H s'→Q () s') (hf:X.fn x=true∨X.env.scope.names.lookup x=some .local:=by first | exact .inl rfl | exact .inr rfl | assumption):wpAny M A (storeName X.env x u) Q E s:=
 Az I hN hi hx r (fun s' I' _=>h s' I') hf
theorem Inv.FP {s':Shared} {ch:List Addr} (I:Inv X pins σ H s) (ho:s'.os=s.os) (u:Un (frs X.stack) ch H H' s.heap s'.heap) (hok:HOk X.prog X.w H' s'.heap) (hg:AllBare s'.gens)
   (hch:∀ b ∈ ch,(b ∈ X.ex∨X.s₀.heap.objs.size≤b)∧b ≠ X.env.locals∧(∀ x c,X.env.cells.lookup x=some c→c ≠ b)∧∀ p ∈ X.pn++pins,p.1 ≠ b):Inv X pins σ H' s':=by
 obtain ⟨h',g',d',t',o'⟩:=s'
 have e:o'=s.os:=ho
 subst e
 exact I.call (g':=g') (t':=t') (d':=d') u hok hg hch
end
noncomputable abbrev XK:=Value→Option Addr→Hp→Prop
noncomputable abbrev St:=List (Option V)
noncomputable abbrev VK:=V→Hp→Prop
noncomputable abbrev TE:=St→Hp→VK→Prop
noncomputable abbrev TT:=St→Hp→(Bool→Hp→Prop)→Prop
noncomputable abbrev TA:=St→Hp→(List V→Hp→Prop)→Prop
structure Ends where
 nx:St→Hp→Prop
 rt:VK
 bk:St→Hp→Prop:=fun _ _=>False
 ct:St→Hp→Prop:=fun _ _=>False
noncomputable abbrev TS:=Ends→St→Hp→Prop
noncomputable def EP (X:Cx) (pins:List (Addr × Obj)) (σ:St) (Q:VK) (u:Value) (s':Shared):Prop:=∃ v H',Inv X pins σ H' s'∧RelV v u∧Q v H'
noncomputable def TP (X:Cx) (pins:List (Addr × Obj)) (σ:St) (Q:Bool→Hp→Prop) (b:Bool) (s':Shared):Prop:=∃ H',Inv X pins σ H' s'∧Q b H'
noncomputable def AP (X:Cx) (pins:List (Addr × Obj)) (σ:St) (Q:List V→Hp→Prop) (us:List Value) (s':Shared):Prop:=∃ vs H',Inv X pins σ H' s'∧Vals vs us∧Q vs H'
noncomputable def SP (X:Cx) (pins:List (Addr × Obj)) (D:Ends) (f:Flow) (s':Shared):Prop:=
 match f with
 | .next=>∃ σ' H',Inv X pins σ' H' s'∧D.nx σ' H'
 | .brk=>∃ σ' H',Inv X pins σ' H' s'∧D.bk σ' H'
 | .cont=>∃ σ' H',Inv X pins σ' H' s'∧D.ct σ' H'
 | .ret u=>∃ v σ' H',Inv X pins σ' H' s'∧RelV v u∧D.rt v H'
noncomputable def PE (X:Cx) (e:Expr) (t:TE):Prop:=
 ∀ (pins:List (Addr × Obj)) (s:Shared) (σ:St) (H:Hp) (Q:VK),Inv X pins σ H s→t σ H Q→wpAny (model X.prog X.w) X.A (eval e X.env) (EP X pins σ Q) X.xe s
noncomputable def PT (X:Cx) (e:Expr) (t:TT):Prop:=
 ∀ (pins:List (Addr × Obj)) (s:Shared) (σ:St) (H:Hp) (Q:Bool→Hp→Prop),Inv X pins σ H s→t σ H Q→wpAny (model X.prog X.w) X.A (isTrue e X.env (eval e X.env)) (TP X pins σ Q) X.xe s
noncomputable def PW (X:Cx) (e:Expr) (t:TT):Prop:=
 ∀ (whole:Sem Value) (pins:List (Addr × Obj)) (s:Shared) (σ:St) (H:Hp) (Q:Bool→Hp→Prop),Inv X pins σ H s→t σ H Q→wpAny (model X.prog X.w) X.A (isTrue e X.env whole) (TP X pins σ Q) X.xe s
theorem PW.pt {X:Cx} {e:Expr} {t:TT} (h:PW X e t):PT X e t:=h _
noncomputable def PA (X:Cx) (es:List Expr) (t:TA):Prop:=
 ∀ (pos:Pos) (pins:List (Addr × Obj)) (s:Shared) (σ:St) (H:Hp) (Q:List V→Hp→Prop),Inv X pins σ H s→t σ H Q→wpAny (model X.prog X.w) X.A (spliced (backTo pos (starEach es X.env))) (AP X pins σ Q) X.xe s
noncomputable def PS (X:Cx) (st:Stmt) (t:TS):Prop:=
 ∀ (pins:List (Addr × Obj)) (s:Shared) (σ:St) (H:Hp) (D:Ends),Inv X pins σ H s→t D σ H→wpAny (model X.prog X.w) X.A (exec st X.env) (SP X pins D) X.xe s
noncomputable def PSs (X:Cx) (st:List Stmt) (t:TS):Prop:=
 ∀ (pins:List (Addr × Obj)) (s:Shared) (σ:St) (H:Hp) (D:Ends),Inv X pins σ H s→t D σ H→wpAny (model X.prog X.w) X.A (execs st X.env) (SP X pins D) X.xe s
theorem thn {α:Type} {t:Sem α} {Q Q':α→Shared→Prop} {M:Model} {A:Around} {E:Value→Shared→Prop} {s:Shared} (h:wpAny M A t Q E s) (hQ:∀ a s,Q a s→Q' a s):wpAny M A t Q' E s:=wpAny_mono h hQ fun _ _ x=>x
end L2
namespace L2
open PySem PySem.Spec PyProof.Rows
section
variable {X:Cx}
theorem bin {a b:Expr} {ta tb:TE} (ha:PE X a ta) (hb:PE X b tb) {pins:List (Addr × Obj)} {s:Shared} {σ:St} {H:Hp} {R:V→V→Hp→Prop} (I:Inv X pins σ H s) (h:ta σ H fun x H1=>tb σ H1 fun y H2=>R x y H2)
   {α:Type} {Q:α→Shared→Prop} {f:Value→Value→Sem α}
   (hf:∀ v u s2 x y H2,Inv X pins σ H2 s2→RelV x v→RelV y u→R x y H2→wpAny (model X.prog X.w) X.A (f v u) Q X.xe s2) :
   wpAny (model X.prog X.w) X.A (eval a X.env) (fun v s₁=>wpAny (model X.prog X.w) X.A (eval b X.env) (fun u s₂=>wpAny (model X.prog X.w) X.A (f v u) Q X.xe s₂) X.xe s₁) X.xe s:=by
 refine thn (ha pins s σ H _ I h) fun v s1 ⟨x,H1,I1,r1,q1⟩=>?_
 refine thn (hb pins s1 σ H1 _ I1 q1) fun u s2 ⟨y,H2,I2,r2,q2⟩=>?_
 exact hf v u s2 x y H2 I2 r1 r2 q2
noncomputable def LI (i:Nat):TE:=fun σ H Q=>∃ v,σ[i]?=some (some v)∧Q v H
noncomputable def tC (v:V):TE:=fun _ H Q=>Q v H
theorem J2 {i:Nat} {x:Str} {pos:Pos} (hN:X.N[i]?=some x) (hv:Vis X.env.scope x) (hd:(x == ("__debug__" : Str))=false:=by decide) (hcd:(x == ("__classdict__" : Str))=false:=by decide):PE X (.Name x pos) (LI i):=by
 intro pins s σ H Q I h
 obtain ⟨v,e,h⟩:=h
 obtain ⟨m,hn,hl⟩:=I.loc
 obtain ⟨u,r,l⟩:=hl i x v hN e hv
 have fin:EP X pins σ Q u s:=⟨v,H,I,r,h⟩
 rcases l with ⟨hk,hm⟩ | ⟨hk,c,hc,hcell⟩
 · exact wpAny_Name (wpAny_loadName_local I.ok.kind hk hn hm fin) hd
 · rcases hk with hk | hk
   · exact wpAny_Name (wpAny_loadName_cell I.ok.kind hk hc hcell fin) hd
   · exact wpAny_Name (wpAny_loadName_free I.ok.kind hk hc hcell fin hcd) hd
theorem JM {i j pos}:PE X (.Constant (.int i) j pos) (tC (.int i)):=fun _ _ _ H _ I h=>wpAny_Constant_int ⟨.int i,H,I.tok _,⟨_,rfl⟩,h⟩
theorem Bp {b j pos}:PE X (.Constant (.bool b) j pos) (tC (.bl b)):=fun _ _ _ H _ I h=>Constant_bool ⟨.bl b,H,I,rfl,h⟩
theorem yb {j pos}:PE X (.Constant .none j pos) (tC .non):=fun _ _ _ H _ I h=>Constant_none ⟨.non,H,I,rfl,h⟩
theorem Jo {x j pos}:PE X (.Constant (.str x) j pos) (tC (.str x)):=fun _ _ _ H _ I h=>Calls.Constant_str ⟨.str x,H,I.tok _,⟨_,rfl⟩,h⟩
noncomputable def Gl (X:Cx) (x:Str):Prop:=X.env.kindOf x=some .globalImplicit
theorem zd {E:Value→Shared→Prop} {pins:List (Addr × Obj)} {s:Shared} {σ:St} {H:Hp} {x:Str} {u:Value} {pos:Pos} {Q:Value→Shared→Prop} (I:Inv X pins σ H s) (hg:Gl X x) (hm:X.mg x=some u) (h:Q u s)
   (hd:(x == ("__debug__" : Str))=false:=by decide):wpAny (model X.prog X.w) X.A (eval (.Name x pos) X.env) Q E s:=
 Calls.Name_function_global I.ok.kind hg (Calls.loadGlobal_global (by rw [I.ok.glob]; exact I.mod.glob.keeps I.bk) hm h) hd
theorem jQ {E:Value→Shared→Prop} {pins:List (Addr × Obj)} {s:Shared} {σ:St} {H:Hp} {x:Str} {u:Value} {pos:Pos} {Q:Value→Shared→Prop} (I:Inv X pins σ H s) (hg:Gl X x) (hm:X.mg x=none) (hv:bootBuiltins x=some u) (h:Q u s)
   (hn:x ≠ "__name__":=by decide) (hd:(x == ("__debug__" : Str))=false:=by decide):wpAny (model X.prog X.w) X.A (eval (.Name x pos) X.env) Q E s:=by
 obtain ⟨mb,h1,h2⟩:=I.mod.blt
 exact Calls.Name_function_global I.ok.kind hg (Calls.loadGlobal_builtin (by rw [I.ok.glob]; exact I.mod.glob.keeps I.bk) hm (by rw [I.ok.blt]; exact h1.keeps I.bk) ((h2 x hn).trans hv) h) hd
theorem D9 {x:Str} {v:V} {u:Value} {pos:Pos} (hg:Gl X x) (hm:X.mg x=some u) (r:RelV v u) (hd:(x == ("__debug__" : Str))=false:=by decide):PE X (.Name x pos) (tC v):=
 fun _ _ _ H _ I h=>zd I hg hm ⟨v,H,I,r,h⟩ hd
theorem mM {x:Str} {v:V} {u:Value} {pos:Pos} (hg:Gl X x) (hm:X.mg x=none) (hv:bootBuiltins x=some u) (r:RelV v u) (hn:x ≠ "__name__":=by decide) (hd:(x == ("__debug__" : Str))=false:=by decide):PE X (.Name x pos) (tC v):=
 fun _ _ _ H _ I h=>jQ I hg hm hv ⟨v,H,I,r,h⟩ hn hd
variable {a b:Expr} {ta tb:TE} {pos:Pos}
noncomputable def PC (X:Cx) (op:CmpOp) (a b:Expr) (t:TE):Prop:=
 ∀ (pins:List (Addr × Obj)) (s:Shared) (σ:St) (H:Hp) (Q:VK),Inv X pins σ H s→t σ H Q →
   wpAny (model X.prog X.w) X.A (eval a X.env) (fun v s₁=>wpAny (model X.prog X.w) X.A (eval b X.env) (fun u s₂=>wpAny (model X.prog X.w) X.A (compareOp op v u) (EP X pins σ Q) X.xe s₂) X.xe s₁) X.xe s
theorem Cn (b:Expr) {op:CmpOp} (h:op ≠ .In) (h2:op ≠ .NotIn):behindInMarks op b=false:=by
 have e1:(op == CmpOp.In)=false:=by cases op <;> first | rfl | exact absurd rfl h
 have e2:(op == CmpOp.NotIn)=false:=by cases op <;> first | rfl | exact absurd rfl h2
 cases b <;> simp [behindInMarks,e1,e2]
noncomputable def tB (t:TE):TT:=fun σ H Q=>t σ H fun x H1=>∃ c,x=.bl c∧Q c H1
theorem LK {op:CmpOp} {t:TE} (h:PC X op a b t) (h1:behindInMarks op b=false:=by first | exact Cn _ (by decide) (by decide) | rfl):PT X (.Compare a [op] [b] pos) (tB t):=by
 intro pins s σ H Q I hw
 refine wpAny_isTrue_Compare1 (thn (h pins s σ H _ I hw) fun v s1 h1=>thn h1 fun u s2 h2=>thn h2 fun c s3 ⟨x,H1,I1,r1,q1⟩=>?_) h1
 obtain ⟨d,rfl,q⟩:=q1
 cases r1
 exact wpAny_truthy_bool ⟨H1,I1,q⟩
theorem Hv {e:Expr} {t:TE} (h:PE X e t) (he:∀ whole,isTrue e X.env whole=(do let v ← whole; standAt e.pos; holding [v] (truthy v)):=by intro _; rfl):PT X e (tB t):=by
 intro pins s σ H Q I hw
 refine isTrue_plain (thn (h pins s σ H _ I hw) fun v s1 ⟨x,H1,I1,r1,q1⟩=>?_) (he _)
 obtain ⟨d,rfl,q⟩:=q1
 cases r1
 exact wpAny_truthy_bool ⟨H1,I1,q⟩
variable {tA tB':TT} {rest:List Expr}
noncomputable def LQ (t u:TT):TT:=fun σ H Q=>t σ H fun c H1=>if c=true then u σ H1 Q else Q false H1
noncomputable def tOr (t u:TT):TT:=fun σ H Q=>t σ H fun c H1=>if c=true then Q true H1 else u σ H1 Q
noncomputable def L5 (t:TT):TT:=fun σ H Q=>t σ H fun c H1=>Q (!c) H1
theorem pw_and1 (ha:PT X a tA):PW X (.BoolOp .And [a] pos) tA:=by
 intro wh pins s σ H Q I h
 refine isTrue_and (thn (ha pins s σ H Q I h) fun c s1 e=>?_)
 cases c with
 | true=>exact isTrue_and_nil e
 | false=>exact e
theorem pw_or1 (ha:PT X a tA):PW X (.BoolOp .Or [a] pos) tA:=by
 intro wh pins s σ H Q I h
 refine isTrue_or (thn (ha pins s σ H Q I h) fun c s1 e=>?_)
 cases c with
 | false=>exact isTrue_or_nil e
 | true=>exact e
theorem pw_and (ha:PT X a tA) (hb:PW X (.BoolOp .And (b :: rest) pos) tB'):PW X (.BoolOp .And (a :: b :: rest) pos) (LQ tA tB'):=by
 intro wh pins s σ H Q I h
 refine isTrue_and (thn (ha pins s σ H _ I h) fun c s1 ⟨H1,I1,q1⟩=>?_)
 cases c with
 | true=>exact hb wh pins s1 σ H1 Q I1 q1
 | false=>exact ⟨H1,I1,q1⟩
theorem pw_or (ha:PT X a tA) (hb:PW X (.BoolOp .Or (b :: rest) pos) tB'):PW X (.BoolOp .Or (a :: b :: rest) pos) (tOr tA tB'):=by
 intro wh pins s σ H Q I h
 refine isTrue_or (thn (ha pins s σ H _ I h) fun c s1 ⟨H1,I1,q1⟩=>?_)
 cases c with
 | true=>exact ⟨H1,I1,q1⟩
 | false=>exact hb wh pins s1 σ H1 Q I1 q1
theorem IM (ha:PT X a tA):PT X (.UnaryOp .Not a pos) (L5 tA):=by
 intro pins s σ H Q I h
 exact isTrue_not (ha pins s σ H (fun c H1=>Q (!c) H1) I h)
noncomputable def Kl (ta tb:TE):TE:=fun σ H Q=>ta σ H fun x H1=>∃ c,x=.bl c∧if c=true then tb σ H1 Q else Q (.bl false) H1
noncomputable def Ma (ta tb:TE):TE:=fun σ H Q=>ta σ H fun x H1=>∃ c,x=.bl c∧if c=true then Q (.bl true) H1 else tb σ H1 Q
noncomputable def KR (ta:TE):TE:=fun σ H Q=>ta σ H fun x H1=>∃ c,x=.bl c∧Q (.bl (!c)) H1
theorem JL {op} {t:TE} (h:PE X a t):PE X (.BoolOp op [a] pos) t:=fun pins s σ H Q I hw=>BoolOp_one (h pins s σ H Q I hw)
theorem Gn (ha:PE X a ta) (hb:PE X (.BoolOp .And (b :: rest) pos) tb):PE X (.BoolOp .And (a :: b :: rest) pos) (Kl ta tb):=by
 intro pins s σ H Q I h
 refine BoolOp_and (thn (ha pins s σ H _ I h) fun v s1 ⟨x,H1,I1,r1,q1⟩=>?_)
 obtain ⟨c,rfl,q1⟩:=q1
 cases r1
 refine wpAny_truthy_bool ?_
 cases c with
 | true=>exact hb pins s1 σ H1 Q I1 q1
 | false=>exact ⟨.bl false,H1,I1,rfl,q1⟩
theorem Km (ha:PE X a ta) (hb:PE X (.BoolOp .Or (b :: rest) pos) tb):PE X (.BoolOp .Or (a :: b :: rest) pos) (Ma ta tb):=by
 intro pins s σ H Q I h
 refine BoolOp_or (thn (ha pins s σ H _ I h) fun v s1 ⟨x,H1,I1,r1,q1⟩=>?_)
 obtain ⟨c,rfl,q1⟩:=q1
 cases r1
 refine wpAny_truthy_bool ?_
 cases c with
 | false=>exact hb pins s1 σ H1 Q I1 q1
 | true=>exact ⟨.bl true,H1,I1,rfl,q1⟩
theorem Ig (ha:PE X a ta):PE X (.UnaryOp .Not a pos) (KR ta):=by
 intro pins s σ H Q I h
 refine UnaryOp_ (thn (ha pins s σ H _ I h) fun v s1 ⟨x,H1,I1,r1,q1⟩=>?_)
 obtain ⟨c,rfl,q1⟩:=q1
 cases r1
 exact not_of (wpAny_truthy_bool ⟨.bl (!c),H1,I1,rfl,q1⟩)
noncomputable def tIf (t:TT) (ta tb:TE):TE:=fun σ H Q=>t σ H fun c H1=>if c=true then ta σ H1 Q else tb σ H1 Q
theorem BC {c:Expr} (hc:PT X c tA) (ha:PE X a ta) (hb:PE X b tb):PE X (.IfExp c a b pos) (tIf tA ta tb):=by
 intro pins s σ H Q I h
 refine wpAny_IfExp (thn (hc pins s σ H _ I h) fun d s1 ⟨H1,I1,q1⟩=>?_)
 cases d with
 | true=>exact ha pins s1 σ H1 Q I1 q1
 | false=>exact hb pins s1 σ H1 Q I1 q1
end
end L2
namespace L2
open PySem PySem.Spec PyProof.Rows
noncomputable def SqL (K:PySem.W.Frag) (H:Hp) (a:Addr) (xs:List V):Prop:=
 Rd H a (.lst xs) ∨
   ∃ (o:Obj) (its:Array Value) (n:Nat),K.lookup a=some o∧o.cls=.type "list" ∧ o.dict=none∧o.data=.seq its n∧its.size≤sizeLine∧Vals xs its.toList
noncomputable def SqT (K:PySem.W.Frag) (H:Hp) (a:Addr) (xs:List V):Prop:=
 Rd H a (.tup xs) ∨
   ∃ (o:Obj) (its:Array Value) (n:Nat),K.lookup a=some o∧o.cls=.type "tuple" ∧ o.data=.seq its n∧its.size≤sizeLine∧Vals xs its.toList
noncomputable def LF:Value→Option V
 | .none=>some .non
 | .bool b=>some (.bl b)
 | .int i _=>some (.int i)
 | .str x _=>some (.str x)
 | .bytes b _=>some (.byt b)
 | .float b _=>some (.flt b)
 | .ref a=>some (.ref a)
 | .type n=>some (.ty n)
 | _=>none
theorem RelV.abs {x:V} {u:Value} (r:RelV x u):LF u=some x:=by
 cases x with
 | non=>cases r; rfl
 | bl _=>cases r; rfl
 | int _=>obtain ⟨t,rfl⟩:=r; rfl
 | str _=>obtain ⟨t,rfl⟩:=r; rfl
 | byt _=>obtain ⟨t,rfl⟩:=r; rfl
 | flt _=>obtain ⟨t,rfl⟩:=r; rfl
 | ref _=>cases r; rfl
 | ty _=>cases r; rfl
theorem RelV.inj {x y:V} {u:Value} (r:RelV x u) (q:RelV y u):x=y:=Option.some.inj (r.abs.symm.trans q.abs)
theorem Vals.inj:∀ {xs ys:List V} {us:List Value},Vals xs us→Vals ys us→xs=ys
 | _,_,_,.nil,.nil=>rfl
 | _,_,_,.cons r t,.cons r' t'=>by rw [r.inj r',Vals.inj t t']
section
variable {X:Cx} {pins:List (Addr × Obj)} {σ:St} {H:Hp} {s:Shared} {a:Addr} {xs ys:List V}
theorem Inv.list (I:Inv X pins σ H s) (h:SqL X.K H a xs):∃ its:List Value,Vals xs its∧PlainL s.heap a its.toArray∧xs.length≤sizeLine:=by
 rcases h with h | ⟨o,its,n,hk,hc,hd,hs,hz,r⟩
 · obtain ⟨z,its,n,r,e⟩:=h.ok I.hok
   exact ⟨its,r,⟨_,n,e,rfl,rfl,rfl⟩,z⟩
 · refine ⟨its.toList,r,⟨o,n,I.kIn a o hk,hc,hd,by simpa using hs⟩,?_⟩
   have e:=r.length
   simp only [Array.length_toList] at e
   omega
theorem Inv.tuple (I:Inv X pins σ H s) (h:SqT X.K H a xs):∃ its:List Value,Vals xs its∧IsTup s.heap a its.toArray∧xs.length≤sizeLine:=by
 rcases h with h | ⟨o,its,n,hk,hc,hs,hz,r⟩
 · obtain ⟨z,its,r,p⟩:=h.ok I.hok
   exact ⟨its,r,p,z⟩
 · refine ⟨its.toList,r,⟨o,I.kIn a o hk,hc,n,by simpa using hs⟩,?_⟩
   have e:=r.length
   simp only [Array.length_toList] at e
   omega
theorem Inv.mB (I:Inv X pins σ H s) (h:SqL X.K H a xs) (h':SqL X.K H a ys):xs=ys:=by
 obtain ⟨its,r,⟨o,n,e,_,_,d⟩,_⟩:=I.list h
 obtain ⟨its',r',⟨o',n',e',_,_,d'⟩,_⟩:=I.list h'
 rw [e] at e'; cases e'
 rw [d] at d'
 injection d' with d1 _
 have:its=its':=by simpa using congrArg Array.toList d1
 subst this
 exact r.inj r'
theorem Inv.AF (I:Inv X pins σ H s) (h:SqT X.K H a xs) (h':SqT X.K H a ys):xs=ys:=by
 obtain ⟨its,r,⟨o,e,_,n,d⟩,_⟩:=I.tuple h
 obtain ⟨its',r',⟨o',e',_,n',d'⟩,_⟩:=I.tuple h'
 rw [e] at e'; cases e'
 rw [d] at d'
 injection d' with d1 _
 have:its=its':=by simpa using congrArg Array.toList d1
 subst this
 exact r.inj r'
end
noncomputable abbrev Cx.qG (X:Cx) (E:Value→Shared→Prop):Cx:={ X with xe:=E }
noncomputable abbrev Cx.nox (X:Cx):Cx:=X.qG fun _ _=>False
theorem Cx.Ok.qG {X:Cx} (ok:X.Ok) (E:Value→Shared→Prop):(X.qG E).Ok:=
 ⟨ok.mod,ok.kind,ok.glob,ok.blt,ok.above,ok.inj,ok.has,ok.cab,ok.hd,ok.frames,ok.stk,ok.exf,ok.bs,ok.bsz,ok.noex,ok.exfs,ok.qU,ok.frf⟩
theorem Cx.Ok.jA {X:Cx} {E:Value→Shared→Prop} (ok:(X.qG E).Ok):X.Ok:=
 ⟨ok.mod,ok.kind,ok.glob,ok.blt,ok.above,ok.inj,ok.has,ok.cab,ok.hd,ok.frames,ok.stk,ok.exf,ok.bs,ok.bsz,ok.noex,ok.exfs,ok.qU,ok.frf⟩
section
variable {X:Cx} {pins:List (Addr × Obj)} {σ:St} {H:Hp} {s:Shared} {E:Value→Shared→Prop}
theorem Inv.qG (I:Inv X pins σ H s) (E:Value→Shared→Prop):Inv (X.qG E) pins σ H s:=⟨I.ok.qG E,I.os,I.bare,I.base,I.loc,I.cell,I.free,I.freeC,I.pin,I.hok,I.len⟩
theorem Inv.jA (I:Inv (X.qG E) pins σ H s):Inv X pins σ H s:=⟨I.ok.jA,I.os,I.bare,I.base,I.loc,I.cell,I.free,I.freeC,I.pin,I.hok,I.len⟩
theorem SP.jA {D:Ends} {f:Flow} {s':Shared} (h:SP (X.qG E) pins D f s'):SP X pins D f s':=by
 cases f with
 | next=>obtain ⟨σ',H',I,q⟩:=h; exact ⟨σ',H',I.jA,q⟩
 | brk=>obtain ⟨σ',H',I,q⟩:=h; exact ⟨σ',H',I.jA,q⟩
 | cont=>obtain ⟨σ',H',I,q⟩:=h; exact ⟨σ',H',I.jA,q⟩
 | ret u=>obtain ⟨v,σ',H',I,r,q⟩:=h; exact ⟨v,σ',H',I.jA,r,q⟩
theorem PSs.nox {st:List Stmt} {t:TS} (h:PSs X.nox st t):PSs X st t:=fun pins s σ H D I hw=>
 wpAny_mono (h pins s σ H D (I.qG _) hw) (fun _ _ q=>q.jA) fun _ _ z=>False.elim z
end
section
variable {X:Cx} {st:Stmt} {rest:List Stmt} {t u:TS} {e:Expr} {te:TE} {pos:Pos}
noncomputable def FV:TS:=fun D σ H=>D.nx σ H
noncomputable def Mg (t u:TS):TS:=fun D σ H=>t { D with nx:=u D } σ H
theorem E0:PSs X [] FV:=fun _ _ σ H _ I h=>wpAny_execs_nil ⟨σ,H,I,h⟩
theorem Bm (h1:PS X st t) (h2:PSs X rest u):PSs X (st :: rest) (Mg t u):=by
 intro pins s σ H D I h
 refine wpAny_execs_cons (thn (h1 pins s σ H { D with nx:=u D } I h) fun f s1 q=>?_)
 cases f with
 | next=>
   obtain ⟨σ',H',I',q⟩:=q
   exact h2 pins s1 σ' H' D I' q
 | ret v=>exact q
 | brk=>exact q
 | cont=>exact q
noncomputable def HR:TS:=fun D σ H=>D.bk σ H
noncomputable def K8:TS:=fun D σ H=>D.ct σ H
theorem DI:PS X (.Pass pos) FV:=fun _ _ σ H _ I h=>wpAny_Pass ⟨σ,H,I,h⟩
theorem B6:PS X (.Break pos) HR:=fun _ _ σ H _ I h=>wpAny_Break ⟨σ,H,I,h⟩
theorem vk:PS X (.Continue pos) K8:=fun _ _ σ H _ I h=>wpAny_Continue ⟨σ,H,I,h⟩
theorem Inv.quiet {pins:List (Addr × Obj)} {σ:St} {H:Hp} {s:Shared} (I:Inv X pins σ H s):interactive X.env=false:=by simp [interactive,I.ok.kind]
noncomputable def CA (te:TE):TS:=fun D σ H=>te σ H fun _ H1=>D.nx σ H1
theorem jh (he:PE X e te) (hs:swapsWith e none pos.line X.env=pure false:=by rfl):PS X (.Expr e pos) (CA te):=by
 intro pins s σ H D I h
 exact wpAny_Expr_any (thn (he pins s σ H _ I h) fun v s1 ⟨x,H1,I1,r1,q1⟩=>⟨σ,H1,I1,q1⟩) I.quiet hs
noncomputable def Mi (te:TE):TS:=fun D σ H=>te σ H D.rt
theorem Ju (he:PE X e te):PS X (.Return (some e) pos) (Mi te):=by
 intro pins s σ H D I h
 exact wpAny_Return_some (thn (he pins s σ H _ I h) fun v s1 ⟨x,H1,I1,r1,q1⟩=>⟨x,σ,H1,I1,r1,q1⟩)
noncomputable def Lo:TS:=fun D _ H=>D.rt .non H
theorem D3:PS X (.Return none pos) Lo:=fun _ _ σ H _ I h=>wpAny_Return_none ⟨.non,σ,H,I,rfl,h⟩
noncomputable def LN (c:TT) (t u:TS):TS:=fun D σ H=>c σ H fun b H1=>if b=true then t D σ H1 else u D σ H1
theorem Ko {c:Expr} {a b:List Stmt} {tc:TT} (hc:PT X c tc) (ha:PSs X a t) (hb:PSs X b u):PS X (.If c a b pos) (LN tc t u):=by
 intro pins s σ H D I h
 refine wpAny_If (thn (hc pins s σ H _ I h) fun d s1 ⟨H1,I1,q1⟩=>?_)
 cases d with
 | true=>exact ha pins s1 σ H1 D I1 q1
 | false=>exact hb pins s1 σ H1 D I1 q1
noncomputable def HW:TS:=fun _ _ _=>False
theorem BL:PS X st HW:=fun _ _ _ _ _ _ h=>h.elim
end
noncomputable abbrev TG:=V→St→Hp→(St→Hp→Prop)→Prop
noncomputable abbrev TGs:=List V→St→Hp→(St→Hp→Prop)→Prop
noncomputable def PG (X:Cx) (target:Expr) (t:TG):Prop:=
 ∀ (pins:List (Addr × Obj)) (s:Shared) (σ:St) (H:Hp) (v:V) (u:Value) (Q:St→Hp→Prop),Inv X pins σ H s→RelV v u→t v σ H Q →
   wpAny (model X.prog X.w) X.A (assign target X.env u) (fun _ s'=>∃ σ' H',Inv X pins σ' H' s'∧Q σ' H') X.xe s
noncomputable def PGs (X:Cx) (ts:List Expr) (t:TGs):Prop:=
 ∀ (pins:List (Addr × Obj)) (s:Shared) (σ:St) (H:Hp) (vs:List V) (us:List Value) (Q:St→Hp→Prop),Inv X pins σ H s→Vals vs us→t vs σ H Q →
   wpAny (model X.prog X.w) X.A (assignInOrder ((assignEach ts X.env).map (·.2)) us) (fun _ s'=>∃ σ' H',Inv X pins σ' H' s'∧Q σ' H') X.xe s
noncomputable abbrev GK:=V→V→V→Hp→(Hp→Prop)→Prop
noncomputable def JQ (X:Cx) (t:GK):Prop:=
 ∀ (pins:List (Addr × Obj)) (s:Shared) (σ:St) (H:Hp) (o i v:V) (ov iv u:Value) (Q:Hp→Prop),Inv X pins σ H s→RelV o ov→RelV i iv→RelV v u→t o i v H Q →
   wpAny (model X.prog X.w) X.A (setItem ov iv u) (fun _ s'=>∃ H',Inv X pins σ H' s'∧Q H') X.xe s
section
variable {X:Cx} {pos:Pos}
noncomputable def K4 (i:Nat):TG:=fun v σ H Q=>Q (σ.set i (some v)) H
theorem zw {i:Nat} {x:Str} (hN:X.N.Nodup) (hi:X.N[i]?=some x) (hx:Loc X.env.scope x) (hf:X.fn x=true∨X.env.scope.names.lookup x=some .local:=by first | exact .inl rfl | exact .inr rfl | assumption):PG X (.Name x pos) (K4 i):=by
 intro pins s σ H v u Q I r h
 exact wpAny_assign_Name (Ds I hN hi hx r (fun s' I'=>⟨_,H,I',h⟩) hf)
noncomputable def Mj:TGs:=fun vs σ H Q=>vs=[]∧Q σ H
noncomputable def K7 (t:TG) (u:TGs):TGs:=fun vs σ H Q=>∃ v r,vs=v :: r∧t v σ H fun σ' H'=>u r σ' H' Q
theorem Fj:PGs X [] Mj:=by
 intro pins s σ H vs us Q I r h
 obtain ⟨e,h⟩:=h
 subst e
 cases r
 exact assignInOrder_nil ⟨σ,H,I,h⟩
theorem B1 {e:Expr} {es:List Expr} {t:TG} {u:TGs} (h1:PG X e t) (h2:PGs X es u)
   (hs:(assignEach (e :: es) X.env).map (·.2)=assign e X.env :: (assignEach es X.env).map (·.2):=by rfl):PGs X (e :: es) (K7 t u):=by
 intro pins s σ H vs us Q I r h
 obtain ⟨v,vr,e1,h⟩:=h
 subst e1
 cases r with
 | cons r rr=>
   rw [hs]
   refine assignInOrder_cons (thn (h1 pins s σ H _ _ _ I r h) fun _ s1 ⟨σ1,H1,I1,q1⟩=>?_)
   exact h2 pins s1 σ1 H1 _ _ Q I1 rr q1
noncomputable def Me (K:PySem.W.Frag) (n:Nat) (t:TGs):TG:=fun v σ H Q=>∃ a xs,v=.ref a∧SqT K H a xs∧xs.length=n∧t xs σ H Q
theorem IS {es:List Expr} {k:Nat} {t:TGs} {n:Nat} (hc:X.calm=true) (h:PGs X es t)
   (hn:(assignEach es X.env).length=n:=by rfl) (hst:(assignEach es X.env).findIdx? (·.1)=none:=by rfl):PG X (.Tuple es k pos) (Me X.K n t):=by
 intro pins s σ H v u Q I r hw
 obtain ⟨a,xs,e1,hq,hl,hw⟩:=hw
 subst e1
 cases r
 obtain ⟨its,rv,ht,hz⟩:=I.tuple hq
 refine assign_Tuple_tuple (I.ok.hd hc) ht (by simp [hn,← hl,rv.length]) hst fun h' hx=>?_
 have I1:Inv X pins σ H { s with heap:=h' }:=I.kept (t':=s.toks) fun b o e=>hx b o (Nat.ne_of_lt (Heap.lt_size e)) e
 exact h pins _ σ H xs _ Q I1 (by simpa using rv) hw
noncomputable def LM (to ti:TE) (t:GK):TG:=fun v σ H Q=>to σ H fun o H1=>ti σ H1 fun i H2=>t o i v H2 fun H3=>Q σ H3
theorem Jz {o i:Expr} {to ti:TE} {t:GK} (ho:PE X o to) (hi:PE X i ti) (hs:JQ X t)
   (ha:∀ v,assign (.Subscript o i pos) X.env v=(do
     let ov ← holding [v] (eval o X.env)
     let iv ← holding [v,ov] (eval i X.env)
     standAt pos
     holding [v,ov,iv] (setItem ov iv v)
     release [v,ov,iv] []):=by intro _; rfl):PG X (.Subscript o i pos) (LM to ti t):=by
 intro pins s σ H v u Q I r h
 rw [ha]
 refine wpAny_bind (wpAny_holding (thn (ho pins s σ H _ I h) fun ov s1 ⟨x,H1,I1,r1,q1⟩=>?_))
 refine wpAny_bind (wpAny_holding (thn (hi pins s1 σ H1 _ I1 q1) fun iv s2 ⟨y,H2,I2,r2,q2⟩=>?_))
 refine wpAny_bind (wpAny_standAt (wpAny_bind (wpAny_holding (thn (hs pins s2 σ H2 x y v ov iv u _ I2 r1 r2 r q2) fun _ s3 ⟨H3,I3,q3⟩=>?_))))
 exact wpAny_release ⟨σ,H3,I3,q3⟩
noncomputable def Ih (te:TE) (g:TG):TS:=fun D σ H=>te σ H fun x H1=>g x σ H1 D.nx
theorem Ca {tg e:Expr} {te:TE} {g:TG} (he:PE X e te) (hg:PG X tg g) (hs:swapsWithSole [tg] e pos.line X.env=pure false:=by rfl) (hw:swappedStores [tg] e X.env=pure none:=by rfl)
   (h1:(assignEach [tg] X.env).map (·.2)=[assign tg X.env]:=by rfl):PS X (.Assign [tg] e pos) (Ih te g):=by
 intro pins s σ H D I h
 refine wpAny_Assign_stores (thn (he pins s σ H _ I h) fun v s1 ⟨x,H1,I1,r1,q1⟩=>?_) hs hw
 rw [h1]
 exact thn (hg pins s1 σ H1 x v _ I1 r1 q1) fun _ s2 q=>q
end
section
variable {X:Cx} {pos:Pos}
noncomputable def Gb (c:TT) (tb:TS):TS:=fun D σ H=>∃ W:Nat→St→Hp→Prop,(∃ m,W m σ H)∧∀ m σ H,W m σ H →
 c σ H fun b H1=>if b=true then ∃ N:St→Hp→Prop,(∀ σ' H',N σ' H'→∃ m',m' < m∧W m' σ' H')∧tb { D with nx:=N,ct:=N,bk:=D.nx } σ H1 else D.nx σ H1
theorem Dk {c:Expr} {body:List Stmt} {tc:TT} {tb:TS} (hp:PassesOwn (model X.prog X.w) X.A X.env X.xe) (hc:PT X c tc) (hb:PSs X body tb):PS X (.While c body [] pos) (Gb tc tb):=by
 intro pins s σ H D I h
 obtain ⟨W,⟨m0,w0⟩,turn⟩:=h
 refine wpAny_While (codeAny_whileLoop (fun n s'=>∃ σ' H',Inv X pins σ' H' s'∧W n σ' H') ?_ m0 ⟨σ,H,I,w0⟩)
 rintro n s1 ⟨σ1,H1,I1,w1⟩
 refine wpAny_passesOwn hp (thn (hc pins s1 σ1 H1 _ I1 (turn n σ1 H1 w1)) fun b s2 ⟨H2,I2,q2⟩=>?_)
 cases b with
 | true=>
   obtain ⟨N,hN,q2⟩:=q2
   rw [if_pos rfl]
   refine wpAny_passesOwn hp (thn (hb pins s2 σ1 H2 _ I2 q2) fun f s3 q3=>?_)
   cases f with
   | next=>
     obtain ⟨σ3,H3,I3,n3⟩:=q3
     obtain ⟨m',hm,w3⟩:=hN σ3 H3 n3
     exact ⟨m',hm,σ3,H3,I3,w3⟩
   | cont=>
     obtain ⟨σ3,H3,I3,n3⟩:=q3
     obtain ⟨m',hm,w3⟩:=hN σ3 H3 n3
     exact ⟨m',hm,σ3,H3,I3,w3⟩
   | brk=>exact q3
   | ret v=>exact q3
 | false=>
   rw [if_neg Bool.false_ne_true]
   exact wpAny_execs_nil ⟨σ1,H2,I2,q2⟩
end
structure It where
 go:Nat→Hp→Prop
 yld:Nat→Hp→V→Hp→Prop
 stop:Nat→Hp→Prop
noncomputable def rR (X:Cx) (pins:List (Addr × Obj)) (H:Hp) (b:Addr):Prop:=
 H b=none∧b ≠ X.env.locals∧b ∉ X.fs∧(b ∈ X.ex∨X.s₀.heap.objs.size≤b)∧(∀ x c,X.env.cells.lookup x=some c→c ≠ b)∧∀ p ∈ X.pn++pins,p.1 ≠ b
theorem Inv.xD {X:Cx} {pins:List (Addr × Obj)} {σ:St} {H H':Hp} {s:Shared} {b:Addr} (I:Inv X pins σ H s) (hb:s.heap.objs.size≤b) (hn:H' b=none):rR X pins H' b:=by
 refine ⟨hn,Nat.ne_of_gt (Nat.lt_of_lt_of_le I.lt hb),I.Mf hb,.inr (Nat.le_trans I.sz hb),fun x c e z=>?_,fun p hp z=>?_⟩
 · obtain ⟨v,q⟩:=I.cell x c e
   exact absurd (Nat.lt_of_lt_of_le q.lt (by rw [z]; exact hb)) (Nat.lt_irrefl _)
 · exact absurd (Nat.lt_of_lt_of_le (Heap.lt_size (I.pin p hp).1) (by rw [z]; exact hb)) (Nat.lt_irrefl _)
structure Turn (P:Program) (w:World) (K:PySem.W.Frag) (tg:Expr) (J:It) (fp:List Addr) (it:Addr) (tn:Nat→Heap→Prop):Prop where
 mem:it ∈ fp
 obj:∀ i h,tn i h→∀ b ∈ fp,∃ o,h.get? b=some o∧∀ v,o.data ≠ .cell v
 keep:∀ i h h',tn i h→(∀ b ∈ fp,∀ o,h.get? b=some o→h'.get? b=some o)→tn i h'
 item:∀ (X:Cx),X.prog=P→X.w=w→X.K=K→X.calm=true→∀ (i:Nat) (pins:List (Addr × Obj)) (s:Shared) (σ:St) (H:Hp) (E:Value→Shared→Prop),Inv X pins σ H s→(∀ b ∈ fp,rR X pins H b)→tn i s.heap→J.go i H →
   wpAny (model P w) X.A (pyNext (.ref it)) (fun r s1=>∃ u,r=some u ∧
     wpAny (model P w) X.A (letOwnedTupleGo tg (.ref it) u) (fun _ s2=>∃ x H',Inv X pins σ H' s2∧RelV x u∧J.yld i H x H'∧tn (i + 1) s2.heap∧∀ b ∈ fp,H' b=none) E s1) E s
 done:∀ (X:Cx),X.prog=P→X.w=w→X.K=K→X.calm=true→∀ (i:Nat) (pins:List (Addr × Obj)) (s:Shared) (σ:St) (H:Hp) (E:Value→Shared→Prop),Inv X pins σ H s→(∀ b ∈ fp,rR X pins H b)→tn i s.heap→J.stop i H →
   wpAny (model P w) X.A (pyNext (.ref it)) (fun r s1=>r=none∧Inv X pins σ H s1) E s
 self:∀ (A:Around) (i:Nat) (s:Shared) (Q:Value→Shared→Prop) (E:Value→Shared→Prop),tn i s.heap→Q (.ref it) s→wpAny (model P w) A (pyIter (.ref it)) Q E s
noncomputable abbrev TI:=St→Hp→(It→Hp→Prop)→Prop
noncomputable def PIE (X:Cx) (pins:List (Addr × Obj)) (σ:St) (tg:Expr) (R:It→Hp→Prop) (itv:Value) (s2:Shared):Prop:=
 ∃ (it:Addr) (fp:List Addr) (tn:Nat→Heap→Prop) (J:It) (H':Hp),itv=.ref it∧Inv X pins σ H' s2∧Turn X.prog X.w X.K tg J fp it tn∧tn 0 s2.heap∧(∀ b ∈ fp,rR X pins H' b)∧R J H'
noncomputable def PI (X:Cx) (tg iter:Expr) (wi:TI):Prop:=
 ∀ (pins:List (Addr × Obj)) (s:Shared) (σ:St) (H:Hp) (R:It→Hp→Prop),Inv X pins σ H s→wi σ H R →
   wpAny (model X.prog X.w) X.A (eval iter X.env) (fun v s1=>wpAny (model X.prog X.w) X.A (pyIter v) (PIE X pins σ tg R) X.xe s1) X.xe s
theorem CT {M:Model} {A:Around} {E:Value→Shared→Prop} {s:Shared} {tg:Expr} {it:Addr} {u:Value} {o:Obj} {n:String} {vs:Array Value} {Q:Unit→Shared→Prop} (ho:s.heap.get? it=some o) (hc:o.cls=.type n) (hd:o.data=.fields vs)
   (hn:["enumerate","zip","dict_itemiterator","dict_reverseitemiterator","odict_iterator","itertools.zip_longest","itertools.pairwise"].contains n=false) (hQ:Q () s):wpAny M A (letOwnedTupleGo tg (.ref it) u) Q E s:=by
 unfold letOwnedTupleGo
 cases tg <;> first
   | exact wpAny_pure hQ
   | (cases u <;> first
       | exact wpAny_pure hQ
       | (refine wpAny_bind (wpAny_load ho ?_)
          rw [hc,hd]
          show wpAny M A (if (["enumerate","zip","dict_itemiterator","dict_reverseitemiterator","odict_iterator","itertools.zip_longest","itertools.pairwise"].contains n && vs[0]? == some (rawInt _))=true then _ else _) Q E s
          rw [if_neg (by intro h; rw [hn,Bool.false_and] at h; cases h)]
          exact wpAny_pure hQ))
noncomputable def Itl (K:PySem.W.Frag) (a:Addr):It:=
 ⟨fun i H=>∃ xs x,SqL K H a xs∧xs[i]?=some x,fun i H x H'=>H'=H∧∀ xs,SqL K H a xs→xs[i]?=some x,fun i H=>∃ xs,SqL K H a xs∧xs.length≤i⟩
noncomputable def Itt (K:PySem.W.Frag) (a:Addr):It:=
 ⟨fun i H=>∃ xs x,SqT K H a xs∧xs[i]?=some x,fun i H x H'=>H'=H∧∀ xs,SqT K H a xs→xs[i]?=some x,fun i H=>∃ xs,SqT K H a xs∧xs.length≤i⟩
noncomputable def Itr (lo:Int) (n:Nat):It:=⟨fun i _=>i < n,fun i H x H'=>H'=H∧x=.int (lo + i),fun i _=>n≤i⟩
theorem AZ {P:Program} {w:World} {K:PySem.W.Frag} {tg:Expr} (a it:Addr):Turn P w K tg (Itl K a) [it] it (fun i h=>h.IsListIter it a i) where
 mem:=by simp
 obj:=fun i h st b hb=>by
   have e:b=it:=by simpa using hb
   subst e
   obtain ⟨o,e,c,d⟩:=st
   exact ⟨o,e,fun v z=>by rw [d] at z; cases z⟩
 keep:=fun i h h' st k=>st.at fun o e=>k it (by simp) o e
 item:=by
   intro X hP hw hK hc i pins s σ H E I hf st hg
   subst hP hw hK
   obtain ⟨xs,x,hq,hx⟩:=hg
   obtain ⟨its,rv,p,hz⟩:=I.list hq
   obtain ⟨u,hu,ru⟩:=rv.get hx
   obtain ⟨f0,f1,f2,f3,f4,f5⟩:=hf it (by simp)
   refine wpAny_pyNext_list_item st p.isList (x:=u) (by simpa using hu) fun h' st' sb=>?_
   have I1:Inv X pins σ H { s with heap:=h' }:=I.turned (t':=s.toks) (fun b o hb e=>(sb.2 b hb).trans e) f0 f1 f3 f4 f5
   obtain ⟨o,e,c,d⟩:=id st'
   exact ⟨u,rfl,CT (s:={ s with heap:=h' }) e c d (by decide) ⟨x,H,I1,ru,⟨rfl,fun ys hy=>by rw [I.mB hy hq]; exact hx⟩,st',fun b hb=>(hf b hb).1⟩⟩
 done:=by
   intro X hP hw hK hc i pins s σ H E I hf st hg
   subst hP hw hK
   obtain ⟨xs,hq,hx⟩:=hg
   obtain ⟨its,rv,p,hz⟩:=I.list hq
   obtain ⟨f0,f1,f2,f3,f4,f5⟩:=hf it (by simp)
   have hl:=rv.length
   exact wpAny_pyNext_list_end (I.ok.hd hc) st p.isList (by simp; omega) fun h' eb=>⟨rfl,I.turned (t':=s.toks) (fun b o hb e=>eb b o hb e) f0 f1 f3 f4 f5⟩
 self:=fun _ _ _ _ _ st h=>wpAny_pyIter_listiter st h
theorem xp {P:Program} {w:World} {K:PySem.W.Frag} {tg:Expr} (a it:Addr):Turn P w K tg (Itt K a) [it] it (fun i h=>h.IsTupleIter it a i) where
 mem:=by simp
 obj:=fun i h st b hb=>by
   have e:b=it:=by simpa using hb
   subst e
   obtain ⟨o,e,c,d⟩:=st
   exact ⟨o,e,fun v z=>by rw [d] at z; cases z⟩
 keep:=fun i h h' st k=>st.at fun o e=>k it (by simp) o e
 item:=by
   intro X hP hw hK hc i pins s σ H E I hf st hg
   subst hP hw hK
   obtain ⟨xs,x,hq,hx⟩:=hg
   obtain ⟨its,rv,p,hz⟩:=I.tuple hq
   obtain ⟨u,hu,ru⟩:=rv.get hx
   obtain ⟨f0,f1,f2,f3,f4,f5⟩:=hf it (by simp)
   refine wpAny_pyNext_tuple_item st (show s.heap.IsTuple a its.toArray from p) (x:=u) (by simpa using hu) fun h' st' sb=>?_
   have I1:Inv X pins σ H { s with heap:=h' }:=I.turned (t':=s.toks) (fun b o hb e=>(sb.2 b hb).trans e) f0 f1 f3 f4 f5
   obtain ⟨o,e,c,d⟩:=id st'
   exact ⟨u,rfl,CT (s:={ s with heap:=h' }) e c d (by decide) ⟨x,H,I1,ru,⟨rfl,fun ys hy=>by rw [I.AF hy hq]; exact hx⟩,st',fun b hb=>(hf b hb).1⟩⟩
 done:=by
   intro X hP hw hK hc i pins s σ H E I hf st hg
   subst hP hw hK
   obtain ⟨xs,hq,hx⟩:=hg
   obtain ⟨its,rv,p,hz⟩:=I.tuple hq
   obtain ⟨f0,f1,f2,f3,f4,f5⟩:=hf it (by simp)
   have hl:=rv.length
   exact wpAny_pyNext_tuple_end (I.ok.hd hc) st (show s.heap.IsTuple a its.toArray from p) (by simp; omega) fun h' eb=>⟨rfl,I.turned (t':=s.toks) (fun b o hb e=>eb b o hb e) f0 f1 f3 f4 f5⟩
 self:=fun _ _ _ _ _ st h=>wpAny_pyIter_tupleiter st h
theorem x6 {P:Program} {w:World} {K:PySem.W.Frag} {tg:Expr} (it:Addr) (lo:Int) (n:Nat):Turn P w K tg (Itr lo n) [it] it (fun i h=>IsRangeIter h it (lo + (i:Nat) * 1) ((n:Int) - (i:Nat)) 1) where
 mem:=by simp
 obj:=fun i h st b hb=>by
   have e:b=it:=by simpa using hb
   subst e
   exact ⟨_,st,fun v z=>by
     have z':Data.fields _=Data.cell v:=z
     cases z'⟩
 keep:=fun i h h' st k=>k it (by simp) _ st
 item:=by
   intro X hP hw hK hc i pins s σ H E I hf st hg
   subst hP hw hK
   obtain ⟨f0,f1,f2,f3,f4,f5⟩:=hf it (by simp)
   have W:=Walks.range (prog:=X.prog) (w:=X.w) (I.ok.hd hc) it lo 1 n
   refine W.item i s _ _ hg st fun v h' tk hv st' kk=>?_
   obtain ⟨t,rfl⟩:=hv
   have I1:Inv X pins σ H { s with heap:=h',toks:=tk }:=I.turned (fun b o hb e=>kk b o (by simpa using hb) e) f0 f1 f3 f4 f5
   refine ⟨_,rfl,CT (s:={ s with heap:=h',toks:=tk }) (n:="range_iterator") st' rfl rfl (by decide) ⟨.int (lo + i),H,I1,⟨t,?_⟩,⟨rfl,rfl⟩,st',fun b hb=>(hf b hb).1⟩⟩
   rw [Int.mul_one]
 done:=by
   intro X hP hw hK hc i pins s σ H E I hf st hg
   subst hP hw hK
   obtain ⟨f0,f1,f2,f3,f4,f5⟩:=hf it (by simp)
   exact wpAny_pyNext_range_end (I.ok.hd hc) st (by have:n≤i:=hg; omega) fun h' eb=>⟨rfl,I.turned (t':=s.toks) (fun b o hb e=>eb b o hb e) f0 f1 f3 f4 f5⟩
 self:=fun _ _ _ _ _ st h=>wpAny_pyIter_rangeiter st h
end L2
namespace L2
open PySem PySem.Spec PyProof.Rows
section
variable {X:Cx} {tg:Expr}
noncomputable def Ky (K:PySem.W.Frag) (tl:TE):TI:=fun σ H R=>tl σ H fun x H1=>∃ a,x=.ref a∧(∃ xs,SqL K H1 a xs)∧R (Itl K a) H1
noncomputable def L9 (K:PySem.W.Frag) (tl:TE):TI:=fun σ H R=>tl σ H fun x H1=>∃ a,x=.ref a∧(∃ xs,SqT K H1 a xs)∧R (Itt K a) H1
theorem DG {l:Expr} {tl:TE} (hl:PE X l tl):PI X tg l (Ky X.K tl):=by
 intro pins s σ H R I h
 refine thn (hl pins s σ H _ I h) fun v s1 ⟨x,H1,I1,r1,q1⟩=>?_
 obtain ⟨a,e,⟨xs,hq⟩,q⟩:=q1
 subst e
 cases r1
 obtain ⟨its,rv,p,hz⟩:=I1.list hq
 refine wpAny_pyIter_list p.isList ?_
 refine ⟨s1.heap.objs.size,[s1.heap.objs.size],_,_,H1,rfl,I1.kept (t':=s1.toks) fun b o e=>Heap.get?_push_of_some _ e,AZ a _,⟨_,Heap.get?_push_size _ rfl,rfl,rfl⟩,fun b hb=>?_,q⟩
 have e:b=s1.heap.objs.size:=by simpa using hb
 subst e
 exact I1.xD (Nat.le_refl _) (I1.hok.fresh (Nat.le_refl _))
theorem Gm {l:Expr} {tl:TE} (hl:PE X l tl):PI X tg l (L9 X.K tl):=by
 intro pins s σ H R I h
 refine thn (hl pins s σ H _ I h) fun v s1 ⟨x,H1,I1,r1,q1⟩=>?_
 obtain ⟨a,e,⟨xs,hq⟩,q⟩:=q1
 subst e
 cases r1
 obtain ⟨its,rv,p,hz⟩:=I1.tuple hq
 refine wpAny_pyIter_tuple (show s1.heap.IsTuple a its.toArray from p) ?_
 refine ⟨s1.heap.objs.size,[s1.heap.objs.size],_,_,H1,rfl,I1.kept (t':=s1.toks) fun b o e=>Heap.get?_push_of_some _ e,xp a _,⟨_,Heap.get?_push_size _ rfl,rfl,rfl⟩,fun b hb=>?_,q⟩
 have e:b=s1.heap.objs.size:=by simpa using hb
 subst e
 exact I1.xD (Nat.le_refl _) (I1.hok.fresh (Nat.le_refl _))
theorem vK {pins:List (Addr × Obj)} {σ:St} {H:Hp} {s:Shared} {R:It→Hp→Prop} {E:Value→Shared→Prop} {lo hi:Int} {t u v:Tok} {tk:Nat} (I:Inv X pins σ H s) (h1:-(2 ^ 62)≤lo) (h2:lo < 2 ^ 62) (h3:-(2 ^ 62)≤hi) (h4:hi < 2 ^ 62)
   (q:R (Itr lo (hi - lo).toNat) H):wpAny (model X.prog X.w) X.A (pyIter (.ref s.heap.objs.size)) (PIE X pins σ tg R) E { s with heap:=s.heap.push { cls:=.type "range",data:=.fields #[.int lo t,.int hi u,.int 1 v] },toks:=tk }:=by
 refine wpAny_pyIter_range (IsRange.new ..) (small_one h1 h2 h3 h4) ?_
 have I1:Inv X pins σ H { s with heap:=s.heap.push { cls:=.type "range",data:=.fields #[.int lo t,.int hi u,.int 1 v] },toks:=tk }:=I.kept fun b o e=>Heap.get?_push_of_some _ e
 refine ⟨(s.heap.push { cls:=.type "range",data:=.fields #[.int lo t,.int hi u,.int 1 v] }).objs.size,[(s.heap.push { cls:=.type "range",data:=.fields #[.int lo t,.int hi u,.int 1 v] }).objs.size],_,_,H,rfl,
   I1.kept (t':=tk) fun b o e=>Heap.get?_push_of_some _ e,x6 _ lo (hi - lo).toNat,?_,fun b hb=>?_,q⟩
 · have e1:lo + ((0:Nat):Int) * 1=lo:=by simp
   have e2:(((hi - lo).toNat:Nat):Int) - ((0:Nat):Int)=Builtin.Range.rangeSize lo hi 1:=by rw [rangeSize_one]; split <;> omega
   show IsRangeIter _ _ (lo + ((0:Nat):Int) * 1) ((((hi - lo).toNat:Nat):Int) - ((0:Nat):Int)) 1
   rw [e1,e2]
   exact Heap.get?_push_size _ rfl
 · have e:b=(s.heap.push { cls:=.type "range",data:=.fields #[.int lo t,.int hi u,.int 1 v] }).objs.size:=by simpa using hb
   subst e
   exact I1.xD (Nat.le_refl _) (I1.hok.fresh (Nat.le_refl _))
noncomputable def Ks (ta:TA):TI:=fun σ H R=>ta σ H fun vs H1=>∃ j:Int,vs=[.int j]∧-(2 ^ 62)≤j∧j < 2 ^ 62∧R (Itr 0 j.toNat) H1
noncomputable def Kk (ta:TA):TI:=fun σ H R=>ta σ H fun vs H1=>∃ i j:Int,vs=[.int i,.int j]∧(-(2 ^ 62)≤i∧i < 2 ^ 62∧-(2 ^ 62)≤j∧j < 2 ^ 62)∧R (Itr i (j - i).toNat) H1
theorem AD {a:Expr} {ta:TA} {p pos:Pos} (hg:Gl X "range") (hm:X.mg "range" = none) (ha:PA X [a] ta) (hs:starEach [a] X.env=[(false,eval a X.env)]:=by rfl):PI X tg (.Call (.Name "range" p) [a] [] pos) (Ks ta):=by
 intro pins s σ H R I h
 refine Call_ (jQ I hg hm boot_range (PyProof.Rows.callWith_type1 (thn (ha pos pins s σ H _ I h) fun us s1 ⟨vs,H1,I1,r1,q1⟩=>?_) hs rfl))
 obtain ⟨j,e,q1,q2,q⟩:=q1
 subst e
 cases r1 with
 | cons r rr=>
   cases rr
   obtain ⟨t,rfl⟩:=r
   exact call_range_1 (vK I1 (by omega) (by omega) q1 q2 (by simpa using q))
theorem A1 {a b:Expr} {ta:TA} {p pos:Pos} (hg:Gl X "range") (hm:X.mg "range" = none) (ha:PA X [a,b] ta) (hs:starEach [a,b] X.env=[(false,eval a X.env),(false,eval b X.env)]:=by rfl) (hs2:starEach [b] X.env=[(false,eval b X.env)]:=by rfl) :
   PI X tg (.Call (.Name "range" p) [a,b] [] pos) (Kk ta):=by
 intro pins s σ H R I h
 refine Call_ (jQ I hg hm boot_range (PyProof.Rows.callWith_type1 (thn (ha pos pins s σ H _ I h) fun us s1 ⟨vs,H1,I1,r1,q1⟩=>?_) (by rw [hs,hs2]) (by rw [hs2]; rfl)))
 obtain ⟨i,j,e,⟨q1,q2,q3,q4⟩,q⟩:=q1
 subst e
 cases r1 with
 | cons r rr=>
   cases rr with
   | cons r' rr=>
     cases rr
     obtain ⟨t,rfl⟩:=r
     obtain ⟨t',rfl⟩:=r'
     exact call_range_2 (vK I1 q1 q2 q3 q4 q)
noncomputable def LS (wi:TI) (g:TG) (tb:TS):TS:=fun D σ H=>wi σ H fun J H1=>∃ W:Nat→Nat→St→Hp→Prop,(∃ m,W 0 m σ H1)∧∀ i m σ H,W i m σ H →
 (J.stop i H∧D.nx σ H)∨(J.go i H∧∃ N:St→Hp→Prop,(∀ σ' H',N σ' H'→∃ m',m' < m∧W (i + 1) m' σ' H')∧∀ x H',J.yld i H x H'→g x σ H' fun σ2 H2=>tb { D with nx:=N,ct:=N,bk:=D.nx } σ2 H2)
noncomputable def lY (fp:List Addr) (h:Heap):List (Addr × Obj):=fp.filterMap fun b=>(h.get? b).map fun o=>(b,o)
theorem fv {fp:List Addr} {h:Heap} {b:Addr} {o:Obj} (hb:b ∈ fp) (e:h.get? b=some o):(b,o) ∈ lY fp h:=List.mem_filterMap.mpr ⟨b,hb,by rw [e]; rfl⟩
theorem As {fp:List Addr} {h:Heap} {p:Addr × Obj} (hp:p ∈ lY fp h):p.1 ∈ fp∧h.get? p.1=some p.2:=by
 obtain ⟨b,hb,e⟩:=List.mem_filterMap.mp hp
 cases q:h.get? b with
 | none=>rw [q] at e; cases e
 | some o=>
   rw [q] at e
   have e':(b,o)=p:=Option.some.inj e
   subst e'
   exact ⟨hb,q⟩
theorem Inv.pinned {pins:List (Addr × Obj)} {σ:St} {H:Hp} {s:Shared} {fp:List Addr} (I:Inv X pins σ H s) (hf:∀ b ∈ fp,rR X pins H b) (ho:∀ b ∈ fp,∃ o,s.heap.get? b=some o∧∀ v,o.data ≠ .cell v):Inv X (pins++lY fp s.heap) σ H s:=
 I.yW fun p hp=>(List.mem_append.mp hp).elim (fun z=>I.pin p (List.mem_append_right _ z)) fun z=>by
   obtain ⟨hb,e⟩:=As z
   obtain ⟨f0,f1,f2,_⟩:=hf p.1 hb
   obtain ⟨o,e',d⟩:=ho p.1 hb
   rw [e] at e'; cases e'
   exact ⟨e,f0,f1,f2,d⟩
theorem Inv.jd {pins pl:List (Addr × Obj)} {σ:St} {H:Hp} {s:Shared} (I:Inv X (pins++pl) σ H s):Inv X pins σ H s:=I.yW fun p hp=>I.pin p (List.mem_append_right _ (List.mem_append_left _ hp))
theorem JG {iter:Expr} {body:List Stmt} {wi:TI} {g:TG} {tb:TS} {pos:Pos} (hp:PassesOwn (model X.prog X.w) X.A X.env X.xe) (hc:X.calm=true) (hi:PI X tg iter wi) (hg:PG X tg g) (hb:PSs X body tb)
   (hs:∀ x,foldedSetIterable iter X.env x=pure x:=by intro _; rfl):PS X (.For tg iter body [] pos) (LS wi g tb):=by
 intro pins s σ H D I h
 refine wpAny_For (thn (hi pins s σ H _ I h) fun v s1 h1=>thn h1 fun itv s2 h2=>?_) hs
 obtain ⟨it,fp,tn,J,H2,e,I2,T,st2,f2,W,⟨m0,w0⟩,turn⟩:=h2
 subst e
 have stat:∀ {H':Hp},(∀ b ∈ fp,H' b=none)→∀ b ∈ fp,rR X pins H' b:=fun hn b hb=>⟨hn b hb,(f2 b hb).2⟩
 refine codeAny_forLoop_any (fun n s'=>∃ i σ' H',Inv X pins σ' H' s'∧tn i s'.heap∧(∀ b ∈ fp,H' b=none)∧W i n σ' H') ?_ m0 ⟨0,σ,H2,I2,st2,fun b hb=>(f2 b hb).1,w0⟩
 rintro n s3 ⟨i,σ3,H3,I3,st3,fr3,w3⟩
 rcases turn i n σ3 H3 w3 with ⟨stop,qn⟩ | ⟨go,N,hN,step⟩
 · refine wpAny_passesOwn hp (thn (T.done X rfl rfl rfl hc i pins s3 σ3 H3 X.xe I3 (stat fr3) st3 stop) fun r s4 ⟨hr,I4⟩=>?_)
   subst hr
   exact wpAny_execs_nil ⟨σ3,H3,I4,qn⟩
 · refine wpAny_passesOwn hp (thn (T.item X rfl rfl rfl hc i pins s3 σ3 H3 X.xe I3 (stat fr3) st3 go) fun r s4 ⟨u,hr,h4⟩=>?_)
   subst hr
   refine wpAny_passesOwn hp (thn h4 fun _ s5 ⟨x,H5,I5,r5,y5,st5,fr5⟩=>?_)
   have I5':=I5.pinned (stat fr5) (T.obj _ _ st5)
   refine wpAny_passesOwn hp (thn (hg _ s5 σ3 H5 x u _ I5' r5 (step x H5 y5)) fun _ s6 ⟨σ6,H6,I6,q6⟩=>?_)
   refine wpAny_passesOwn hp (thn (hb _ s6 σ6 H6 _ I6 q6) fun f s7 q7=>?_)
   have again:∀ {σ7:St} {H7:Hp},Inv X (pins++lY fp s5.heap) σ7 H7 s7→N σ7 H7→∃ m,m < n∧∃ i σ' H',Inv X pins σ' H' s7∧tn i s7.heap∧(∀ b ∈ fp,H' b=none)∧W i m σ' H':=fun {σ7 H7} I7 n7=>by
     obtain ⟨m',hm,w7⟩:=hN σ7 H7 n7
     refine ⟨m',hm,i + 1,σ7,H7,I7.jd,T.keep _ _ _ st5 fun b hb o e=>(I7.pin (b,o) (List.mem_append_right _ (List.mem_append_right _ (fv hb e)))).1,fun b hb=>?_,w7⟩
     obtain ⟨o,e,d⟩:=T.obj _ _ st5 b hb
     exact (I7.pin (b,o) (List.mem_append_right _ (List.mem_append_right _ (fv hb e)))).2.1
   cases f with
   | next=>obtain ⟨σ7,H7,I7,n7⟩:=q7; exact again I7 n7
   | cont=>obtain ⟨σ7,H7,I7,n7⟩:=q7; exact again I7 n7
   | brk=>obtain ⟨σ7,H7,I7,q7⟩:=q7; exact ⟨σ7,H7,I7.jd,q7⟩
   | ret v=>obtain ⟨x7,σ7,H7,I7,r7,q7⟩:=q7; exact ⟨x7,σ7,H7,I7.jd,r7,q7⟩
end
end L2
namespace L2
open PySem PySem.Spec PyProof.Rows
noncomputable abbrev R2:=V→V→Hp→VK→Prop
noncomputable def OpR (X:Cx) (f:Value→Value→Sem Value) (r:R2):Prop:=
 ∀ (pins:List (Addr × Obj)) (s:Shared) (σ:St) (H:Hp) (x y:V) (v u:Value) (Q:VK),Inv X pins σ H s→RelV x v→RelV y u→r x y H Q →
   wpAny (model X.prog X.w) X.A (f v u) (EP X pins σ Q) X.xe s
noncomputable def UnR (X:Cx) (f:Value→Sem Value) (r:V→Hp→VK→Prop):Prop:=
 ∀ (pins:List (Addr × Obj)) (s:Shared) (σ:St) (H:Hp) (x:V) (v:Value) (Q:VK),Inv X pins σ H s→RelV x v→r x H Q →
   wpAny (model X.prog X.w) X.A (f v) (EP X pins σ Q) X.xe s
noncomputable def fN (X:Cx) (f:Value) (r:List V→Hp→VK→Prop):Prop:=
 ∀ (pins:List (Addr × Obj)) (s:Shared) (σ:St) (H:Hp) (xs:List V) (us:List Value) (Q:VK),Inv X pins σ H s→Vals xs us→r xs H Q →
   wpAny (model X.prog X.w) X.A (call f us) (EP X pins σ Q) X.xe s
noncomputable def tOp (r:R2) (ta tb:TE):TE:=fun σ H Q=>ta σ H fun x H1=>tb σ H1 fun y H2=>r x y H2 Q
noncomputable def tUn (r:V→Hp→VK→Prop) (ta:TE):TE:=fun σ H Q=>ta σ H fun x H1=>r x H1 Q
noncomputable def rI (C:Int→Int→Prop) (g:Int→Int→V):R2:=fun x y H Q=>∃ i j,x=.int i∧y=.int j∧C i j∧Q (g i j) H
noncomputable def rI0 (g:Int→Int→V):R2:=fun x y H Q=>∃ i j,x=.int i∧y=.int j∧Q (g i j) H
noncomputable def rU (g:Int→V):V→Hp→VK→Prop:=fun x H Q=>∃ i,x=.int i∧Q (g i) H
section
variable {X:Cx} {a b c:Expr} {ta tb tc:TE} {pos:Pos}
theorem HH (ha:PE X a ta) (hb:PE X b tb) {pins:List (Addr × Obj)} {s:Shared} {σ:St} {H:Hp} {R:V→V→Hp→Prop} (I:Inv X pins σ H s)
   (h:ta σ H fun x H1=>tb σ H1 fun y H2=>R x y H2) {Q:Value→Shared→Prop} {f:Value→Value→Sem Value}
   (hf:∀ v u s2 x y H2,Inv X pins σ H2 s2→RelV x v→RelV y u→R x y H2→wpAny (model X.prog X.w) X.A (f v u) Q X.xe s2) :
   wpAny (model X.prog X.w) X.A (eval a X.env) (fun v s₁=>wpAny (model X.prog X.w) X.A (eval b X.env) (fun u s₂=>wpAny (model X.prog X.w) X.A (f v u) Q X.xe s₂) X.xe s₁) X.xe s:=by
 refine thn (ha pins s σ H _ I h) fun v s1 ⟨x,H1,I1,r1,q1⟩=>?_
 refine thn (hb pins s1 σ H1 _ I1 q1) fun u s2 ⟨y,H2,I2,r2,q2⟩=>?_
 exact hf v u s2 x y H2 I2 r1 r2 q2
theorem KS {op:Operator} {r:R2} (ho:OpR X (binaryOp op) r) (ha:PE X a ta) (hb:PE X b tb):PE X (.BinOp a op b pos) (tOp r ta tb):=by
 intro pins s σ H Q I h
 exact wpAny_BinOp (HH ha hb I h fun v u s2 x y H2 I2 rx ry q=>ho pins s2 σ H2 x y v u Q I2 rx ry q)
theorem Lp {op:UnaryOp} {r:V→Hp→VK→Prop} (ho:UnR X (unaryOp op) r) (ha:PE X a ta):PE X (.UnaryOp op a pos) (tUn r ta):=by
 intro pins s σ H Q I h
 exact UnaryOp_ (thn (ha pins s σ H _ I h) fun v s1 ⟨x,H1,I1,r1,q1⟩=>ho pins s1 σ H1 x v Q I1 r1 q1)
theorem opI {f:Value→Value→Sem Value} {C:Int→Int→Prop} {g:Int→Int→Int}
   (rule:∀ (i j:Int) (t u:Tok) (s:Shared) (Q:Value→Shared→Prop) (E:Value→Shared→Prop),C i j→Q (.int (g i j) s.toks) { s with toks:=s.toks + 1 }→wpAny (model X.prog X.w) X.A (f (.int i t) (.int j u)) Q E s) :
   OpR X f (rI C fun i j=>.int (g i j)):=by
 intro pins s σ H x y v u Q I rx ry h
 obtain ⟨i,j,rfl,rfl,hc,q⟩:=h
 obtain ⟨t,rfl⟩:=rx
 obtain ⟨t',rfl⟩:=ry
 exact rule i j t t' s _ _ hc ⟨.int (g i j),H,I.tok _,⟨_,rfl⟩,q⟩
theorem LU {f:Value→Value→Sem Value} {g:Int→Int→Int}
   (rule:∀ (i j:Int) (t u:Tok) (s:Shared) (Q:Value→Shared→Prop) (E:Value→Shared→Prop),Q (.int (g i j) s.toks) { s with toks:=s.toks + 1 }→wpAny (model X.prog X.w) X.A (f (.int i t) (.int j u)) Q E s) :
   OpR X f (rI0 fun i j=>.int (g i j)):=by
 intro pins s σ H x y v u Q I rx ry h
 obtain ⟨i,j,rfl,rfl,q⟩:=h
 obtain ⟨t,rfl⟩:=rx
 obtain ⟨t',rfl⟩:=ry
 exact rule i j t t' s _ _ ⟨.int (g i j),H,I.tok _,⟨_,rfl⟩,q⟩
theorem E3 {f:Value→Value→Sem Value} {g:Int→Int→Bool}
   (rule:∀ (i j:Int) (t u:Tok) (s:Shared) (Q:Value→Shared→Prop) (E:Value→Shared→Prop),Q (.bool (g i j)) s→wpAny (model X.prog X.w) X.A (f (.int i t) (.int j u)) Q E s) :
   OpR X f (rI0 fun i j=>.bl (g i j)):=by
 intro pins s σ H x y v u Q I rx ry h
 obtain ⟨i,j,rfl,rfl,q⟩:=h
 obtain ⟨t,rfl⟩:=rx
 obtain ⟨t',rfl⟩:=ry
 exact rule i j t t' s _ _ ⟨.bl (g i j),H,I,rfl,q⟩
noncomputable def K1 (i j:Int):Prop:=0≤j∧j≤1000000∧i.natAbs < 2 ^ 64
theorem xM (k:Nat):(0:Int)≤2 ^ k:=by
 rw [two_pow_cast]
 exact Int.natCast_nonneg _
theorem DT:OpR X (binaryOp .Mod) (rI (fun _ j=>j ≠ 0) fun i j=>.int (i.fmod j)):=opI fun _ _ _ _ _ _ _ hc q=>mod_int' hc q
theorem Iq:OpR X (binaryOp .Pow) (rI K1 fun i j=>.int (i ^ j.toNat)):=opI fun _ _ _ _ _ _ _ hc q=>pow_int_small hc.1 hc.2.1 hc.2.2 q
theorem HB:OpR X (binaryOp .LShift) (rI K1 fun i j=>.int (i * 2 ^ j.toNat)):=opI fun _ _ _ _ _ _ _ hc q=>lshift_int_small hc.1 hc.2.1 hc.2.2 q
theorem Ji:OpR X (binaryOp .RShift) (rI (fun _ j=>0≤j) fun i j=>.int (i / 2 ^ j.toNat)):=opI fun i j _ _ _ _ _ hc q=>
 rshift_int hc (by rw [Int.fdiv_eq_ediv_of_nonneg i (xM _)]; exact q)
theorem Le:OpR X (binaryOp .BitOr) (rI0 fun i j=>.int (Builtin.bitOr i j)):=LU fun _ _ _ _ _ _ _ q=>or_int q
theorem unI {f:Value→Sem Value} {g:Int→Int}
   (rule:∀ (i:Int) (t:Tok) (s:Shared) (Q:Value→Shared→Prop) (E:Value→Shared→Prop),Q (.int (g i) s.toks) { s with toks:=s.toks + 1 }→wpAny (model X.prog X.w) X.A (f (.int i t)) Q E s) :
   UnR X f (rU fun i=>.int (g i)):=by
 intro pins s σ H x v Q I rx h
 obtain ⟨i,rfl,q⟩:=h
 obtain ⟨t,rfl⟩:=rx
 exact rule i t s _ _ ⟨.int (g i),H,I.tok _,⟨_,rfl⟩,q⟩
theorem IF:UnR X (unaryOp .USub) (rU fun i=>.int (-i)):=unI fun _ _ _ _ _ q=>neg_int q
end
section
variable {X:Cx} {a b c:Expr} {ta tb tc:TE} {pos:Pos}
theorem Cr {pins:List (Addr × Obj)} {σ:St} {H:Hp} {s:Shared} {Q:VK} {k k':Bool} (I:Inv X pins σ H s) (q:Q (.bl k) H) (e:k=k'):EP X pins σ Q (.bool k') s:=by
 subst e
 exact ⟨.bl k,H,I,rfl,q⟩
theorem K5:OpR X (compareOp .Lt) (rI0 fun i j=>.bl (decide (i < j))):=E3 fun _ _ _ _ _ _ _ q=>lt_int q
theorem KG:OpR X (compareOp .LtE) (rI0 fun i j=>.bl (decide (i≤j))):=E3 fun _ _ _ _ _ _ _ q=>le_int q
theorem Lz:OpR X (compareOp .Gt) (rI0 fun i j=>.bl (decide (j < i))):=E3 fun _ _ _ _ _ _ _ q=>gt_int q
theorem J9:OpR X (compareOp .GtE) (rI0 fun i j=>.bl (decide (j≤i))):=E3 fun _ _ _ _ _ _ _ q=>ge_int q
theorem Hl:OpR X (compareOp .Is) (fun x y H Q=>y=.non∧Q (.bl (decide (x=.non))) H):=by
 intro pins s σ H x y v u Q I rx ry h
 obtain ⟨rfl,q⟩:=h
 cases ry
 refine is_none_gen (Cr I q ?_)
 cases x <;> first
   | (cases rx; rfl)
   | (obtain ⟨t,rfl⟩:=rx; rfl)
theorem Ec:OpR X (compareOp .IsNot) (fun x y H Q=>y=.non∧Q (.bl (!decide (x=.non))) H):=by
 intro pins s σ H x y v u Q I rx ry h
 obtain ⟨rfl,q⟩:=h
 cases ry
 refine isnot_none_gen (Cr I q ?_)
 cases x <;> first
   | (cases rx; rfl)
   | (obtain ⟨t,rfl⟩:=rx; rfl)
theorem tu {op:CmpOp} {r:R2} (ho:OpR X (compareOp op) r) (ha:PE X a ta) (hb:PE X b tb) (hm:behindInMarks op b=false):PE X (.Compare a [op] [b] pos) (tOp r ta tb):=by
 intro pins s σ H Q I h
 exact wpAny_Compare1 (HH ha hb I h fun v u s2 x y H2 I2 rx ry q=>ho pins s2 σ H2 x y v u Q I2 rx ry q) hm
noncomputable def FU (t:TE):TT:=fun σ H Q=>t σ H fun x H'=>∃ k,x=.bl k∧Q k H'
theorem t9 {op:CmpOp} {r:R2} (ho:OpR X (compareOp op) r) (ha:PE X a ta) (hb:PE X b tb) (hm:behindInMarks op b=false):PT X (.Compare a [op] [b] pos) (FU (tOp r ta tb)):=by
 intro pins s σ H Q I h
 refine wpAny_isTrue_Compare1 (thn (ha pins s σ H _ I h) fun v s1 ⟨x,H1,I1,r1,q1⟩=>thn (hb pins s1 σ H1 _ I1 q1) fun u s2 ⟨y,H2,I2,r2,q2⟩=>
   thn (ho pins s2 σ H2 x y v u _ I2 r1 r2 q2) fun c s3 ⟨z,H3,I3,r3,k,e,q3⟩=>?_) hm
 subst e
 cases r3
 exact wpAny_truthy_bool ⟨H3,I3,q3⟩
noncomputable def yg (r r':R2) (ta tb tc:TE):TE:=fun σ H Q=>ta σ H fun x H1=>tb σ H1 fun y H2=>r x y H2 fun z H3=>∃ k,z=.bl k ∧
 (if k=true then tc σ H3 fun w' H4=>r' y w' H4 Q else Q (.bl false) H3)
theorem CK {op op':CmpOp} {r r':R2} (ho:OpR X (compareOp op) r) (ho':OpR X (compareOp op') r') (ha:PE X a ta) (hb:PE X b tb) (hc:PE X c tc)
   (hm:lastMarks [op,op'] [b,c]=false:=by with_unfolding_all rfl):PE X (.Compare a [op,op'] [b,c] pos) (yg r r' ta tb tc):=by
 intro pins s σ H Q I h
 refine Compare_chain (thn (ha pins s σ H _ I h) fun v s1 ⟨x,H1,I1,r1,q1⟩=>chain_link (thn (hb pins s1 σ H1 _ I1 q1) fun u s2 ⟨y,H2,I2,r2,q2⟩=>
   thn (ho pins s2 σ H2 x y v u _ I2 r1 r2 q2) fun d s3 ⟨z,H3,I3,r3,k,e,q3⟩=>?_)) hm
 subst e
 cases r3
 refine wpAny_truthy_bool ?_
 cases k with
 | false=>exact ite_ff ⟨.bl false,H3,I3,rfl,q3⟩
 | true=>exact ite_tt (chain_last (thn (hc pins s3 σ H3 _ I3 q3) fun w' s4 ⟨z',H4,I4,r4,q4⟩=>ho' pins s4 σ H4 y z' u w' Q I4 r2 r4 q4))
theorem Bk {op op':CmpOp} {r r':R2} (ho:OpR X (compareOp op) r) (ho':OpR X (compareOp op') r') (ha:PE X a ta) (hb:PE X b tb) (hc:PE X c tc)
   (hm:lastMarks [op,op'] [b,c]=false:=by with_unfolding_all rfl):PT X (.Compare a [op,op'] [b,c] pos) (FU (yg r r' ta tb tc)):=by
 intro pins s σ H Q I h
 refine isTrue_chain (thn (ha pins s σ H _ I h) fun v s1 ⟨x,H1,I1,r1,q1⟩=>test_link (thn (hb pins s1 σ H1 _ I1 q1) fun u s2 ⟨y,H2,I2,r2,q2⟩=>
   thn (ho pins s2 σ H2 x y v u _ I2 r1 r2 q2) fun d s3 ⟨z,H3,I3,r3,k,e,q3⟩=>?_)) hm
 subst e
 cases r3
 refine wpAny_truthy_bool ?_
 cases k with
 | false=>
   obtain ⟨k',e',q'⟩:=q3
   cases e'
   exact ite_ff ⟨H3,I3,q'⟩
 | true=>
   refine ite_tt (test_last (thn (hc pins s3 σ H3 _ I3 q3) fun w' s4 ⟨z',H4,I4,r4,q4⟩=>thn (ho' pins s4 σ H4 y z' u w' _ I4 r2 r4 q4) fun d' s5 ⟨z2,H5,I5,r5,k2,e2,q5⟩=>?_))
   subst e2
   cases r5
   exact wpAny_truthy_bool ⟨H5,I5,q5⟩
theorem uG:(sizeLine:Nat) < 2 ^ 63:=by rw [sizeLine_eq]; decide
theorem xH:OpR X (binaryOp .Add) (fun x y H Q=>∃ i j,x=.str i∧y=.str j∧i.length + j.length≤sizeLine∧Q (.str (i++j)) H):=by
 intro pins s σ H x y v u Q I rx ry h
 obtain ⟨i,j,rfl,rfl,hz,q⟩:=h
 obtain ⟨t,rfl⟩:=rx
 obtain ⟨t',rfl⟩:=ry
 exact add_str (fun t' tk=>⟨.str (i++j),H,I.tok _,⟨_,rfl⟩,q⟩) hz
theorem vals1 {x:V} {us:List Value} (r:Vals [x] us):∃ u,us=[u]∧RelV x u:=by
 cases r with
 | cons r1 r2=>cases r2; exact ⟨_,rfl,r1⟩
theorem vals2 {x y:V} {us:List Value} (r:Vals [x,y] us):∃ u w',us=[u,w']∧RelV x u∧RelV y w':=by
 cases r with
 | cons r1 r2=>
   cases r2 with
   | cons r3 r4=>cases r4; exact ⟨_,_,rfl,r1,r3⟩
theorem CJ:fN X (.builtin "abs") (fun xs H Q=>∃ i,xs=[.int i]∧Q (.int (if i < 0 then -i else i)) H):=by
 intro pins s σ H xs us Q I r h
 obtain ⟨i,rfl,q⟩:=h
 obtain ⟨u,rfl,t,rfl⟩:=vals1 r
 exact call_abs_int fun u tk=>⟨.int (if i < 0 then -i else i),H,I.tok _,⟨_,rfl⟩,q⟩
theorem Al (hc:X.calm=true):fN X (.builtin "max") (fun xs H Q=>∃ i j,xs=[.int i,.int j]∧Q (.int (if j > i then j else i)) H):=by
 intro pins s σ H xs us Q I r h
 obtain ⟨i,j,rfl,q⟩:=h
 obtain ⟨u,w',rfl,⟨t,rfl⟩,⟨t',rfl⟩⟩:=vals2 r
 refine max_two_ints (I.ok.hd hc) fun h' tk k=>⟨_,H,I.kept k,?_,q⟩
 by_cases hj:j > i
 · rw [if_pos hj,if_pos hj]; exact ⟨_,rfl⟩
 · rw [if_neg hj,if_neg hj]; exact ⟨_,rfl⟩
theorem Au (hc:X.calm=true):fN X (.builtin "min") (fun xs H Q=>∃ i j,xs=[.int i,.int j]∧Q (.int (if j < i then j else i)) H):=by
 intro pins s σ H xs us Q I r h
 obtain ⟨i,j,rfl,q⟩:=h
 obtain ⟨u,w',rfl,⟨t,rfl⟩,⟨t',rfl⟩⟩:=vals2 r
 refine min_two_ints (I.ok.hd hc) fun h' tk k=>⟨_,H,I.kept k,?_,q⟩
 by_cases hj:j < i
 · rw [if_pos hj,if_pos hj]; exact ⟨_,rfl⟩
 · rw [if_neg hj,if_neg hj]; exact ⟨_,rfl⟩
theorem sX:fN X (.type "int") (fun xs H Q=>(∃ i,xs=[.int i]∧Q (.int i) H)∨∃ k,xs=[.bl k]∧Q (.int (if k then 1 else 0)) H):=by
 intro pins s σ H xs us Q I r h
 rcases h with ⟨i,rfl,q⟩ | ⟨k,rfl,q⟩
 · obtain ⟨u,rfl,t,rfl⟩:=vals1 r
   exact call_int_int ⟨.int i,H,I,⟨_,rfl⟩,q⟩
 · obtain ⟨u,rfl,r1⟩:=vals1 r
   cases r1
   exact call_int_bool ⟨.int (if k then 1 else 0),H,I.tok _,⟨_,rfl⟩,q⟩
end
end L2
namespace L2
open PySem PySem.Spec PyProof.Rows
section
variable {prog:Program} {w:World} {A:Around} {E:Value→Shared→Prop} {s:Shared} {K:PySem.W.Frag} {x dx C f:Addr} {mA:Str→Option Value} {name:Str} {v:Value}
end
section
variable {P:Program} {w:World} {H H':Hp} {h h':Heap} {a C dx:Addr} {fs fs':List (Str × V)}
end
section
variable {X:Cx} {pins:List (Addr × Obj)} {σ:St} {H:Hp} {s:Shared} {a C dx:Addr} {fs:List (Str × V)} {f:Str} {v:V} {A:Around} {E:Value→Shared→Prop}
end
section
variable {X:Cx} {o e value:Expr} {f:Str} {pos pos' tpos:Pos} {ta tv:TE}
end
section
variable {X:Cx} {pins:List (Addr × Obj)} {σ:St} {H:Hp} {s:Shared} {A:Around} {E:Value→Shared→Prop} {Q:Value→Shared→Prop} {c:Value} {b:Bool}
end
end L2
namespace L2
open PySem PySem.Spec PyProof.Rows
structure j2 (k:Nat) (A:Around):Prop where
 hd:A.handled=none
 dp:A.depth + 3 * k + 5 < recursionLimit
 un:A.units + 16 * k + 200 < cLine
theorem j2.mono {j k:Nat} {A:Around} (r:j2 k A) (h:j≤k):j2 j A:=⟨r.hd,by have:=r.dp; omega,by have:=r.un; omega⟩
theorem j2.deeper {k:Nat} {A:Around} (r:j2 (k + 1) A) (env:Env):j2 k (A.deeper env):=
 ⟨r.hd,by have:=r.dp; show A.depth + 1 + 3 * k + 5 < _; omega,by have:=r.un; show A.units + 3 + 16 * k + 200 < _; omega⟩
theorem j2.depth {k:Nat} {A:Around} (r:j2 k A):A.depth < recursionLimit:=by have:=r.dp; omega
theorem j2.units {k:Nat} {A:Around} (r:j2 k A):A.units + 64 < cLine:=by have:=r.un; omega
noncomputable def LB:TA:=fun _ H Q=>Q [] H
noncomputable def Li (ta:TE) (tr:TA):TA:=fun σ H Q=>ta σ H fun x H1=>tr σ H1 fun xs H2=>Q (x :: xs) H2
section
variable {X:Cx} {e:Expr} {es:List Expr} {te:TE} {t:TA} {pos:Pos}
theorem oe:PA X [] LB:=fun _ _ _ _ H Q I h=>Calls.spliced_nil ⟨[],H,I,.nil,h⟩
theorem hW (ha:PE X e te) (hr:PA X es t) (hs:starEach (e :: es) X.env=(false,eval e X.env) :: starEach es X.env:=by rfl):PA X (e :: es) (Li te t):=by
 intro pos pins s σ H Q I h
 rw [hs]
 show wpAny _ _ (spliced ((false,eval e X.env) :: backTo pos (starEach es X.env))) _ _ s
 refine Calls.spliced_cons (thn (ha pins s σ H _ I h) fun u s1 ⟨x,H1,I1,r1,q1⟩=>?_)
 exact thn (hr pos pins s1 σ H1 _ I1 q1) fun us s2 ⟨xs,H2,I2,r2,q2⟩=>⟨x :: xs,H2,I2,.cons r1 r2,q2⟩
noncomputable def LX (t:TA):TE:=fun σ H Q=>t σ H fun xs H1=>xs.length≤sizeLine∧∀ p,H1 p=none→Q (.ref p) (upd H1 p (.tup xs))
noncomputable def LY (t:TA):TE:=fun σ H Q=>t σ H fun xs H1=>xs.length≤sizeLine∧∀ p,H1 p=none→Q (.ref p) (upd H1 p (.lst xs))
theorem Hi {x1} (h:PA X es t):PE X (.Tuple es x1 pos) (LX t):=by
 intro pins s σ H Q I hq
 refine wpAny_Tuple_spliced (thn (h pos pins s σ H _ I hq) fun us s1 ⟨xs,H1,I1,r,z,q⟩=>⟨by rw [← r.length]; exact z,?_⟩)
 have hf:H1 s1.heap.objs.size=none:=I1.hok.fresh (Nat.le_refl _)
 refine ⟨.ref s1.heap.objs.size,upd H1 s1.heap.objs.size (.tup xs),I1.laid (t':=s1.toks) (fun b u e=>Heap.get?_push_of_some _ e) (Nat.le_refl _) ?_,rfl,q _ hf⟩
 exact ⟨z,us,r,⟨_,Heap.get?_push_size _ rfl,rfl,_,rfl⟩⟩
theorem Gg (h:PA X es t):PE X (.List es pos) (LY t):=by
 intro pins s σ H Q I hq
 refine wpAny_List_spliced (thn (h pos pins s σ H _ I hq) fun us s1 ⟨xs,H1,I1,r,z,q⟩=>⟨by rw [← r.length]; exact z,?_⟩)
 have hf:H1 s1.heap.objs.size=none:=I1.hok.fresh (Nat.le_refl _)
 refine ⟨.ref s1.heap.objs.size,upd H1 s1.heap.objs.size (.lst xs),I1.laid (t':=s1.toks) (fun b u e=>Heap.get?_push_of_some _ e) (Nat.le_refl _) ?_,rfl,q _ hf⟩
 exact ⟨z,us,0,r,Heap.get?_push_size _ rfl⟩
end
noncomputable abbrev Sp:=List V→Hp→VK→XK→Prop
noncomputable abbrev CXT:=List Env→Hp→Shared→XK→Value→Shared→Prop
structure ER (P:Program) (w:World) (K:PySem.W.Frag) (mg:Str→Option Value) (base:Heap) (A:Around) (outer:List Env) (s:Shared) (H:Hp):Prop where
 frames:A.frames=some outer
 mod:Mod K mg base
 bs:∀ b o,base.get? b=some o→s.heap.get? b=some o∧H b=none
 bsz:base.objs.size≤s.heap.objs.size
 qU:s.heap.FunFrames base outer
 frf:∀ b ∈ frs outer,H b=none
 hok:HOk P w H s.heap
 bare:AllBare s.gens
noncomputable def CE (outer:List Env) (P:Program) (w:World) (H:Hp) (s:Shared) (Q:VK) (u:Value) (s':Shared):Prop:=
 ∃ v H',s'.os=s.os∧AllBare s'.gens∧Un (frs outer) [] H H' s.heap s'.heap∧HOk P w H' s'.heap∧RelV v u∧Q v H'
noncomputable def CR (CX:CXT) (outer:List Env) (P:Program) (w:World) (H:Hp) (s:Shared) (Q:VK) (E:XK) (r:Result) (s':Shared):Prop:=
 match r with
 | .ok (.ret u)=>CE outer P w H s Q u s'
 | .ok _=>False
 | .error e=>CX outer H s E e s'
structure cK (P:Program) (w:World) (K:PySem.W.Frag) (mg:Str→Option Value) (base:Heap) (CX:CXT) (k:Nat) (f:Addr) (fd:FuncData) (ps:List Str) (sp:Sp):Prop where
 len:∀ vs H Q E,sp vs H Q E→vs.length=ps.length
 run:∀ (A:Around) (outer:List Env) (s:Shared) (H:Hp) (args:Args) (us:List Value) (vs:List V) (Q:VK) (E:XK),j2 k A→ER P w K mg base A outer s H→BindsTo s fd args (ps.zip us)→Vals vs us→sp vs H Q E →
   codeAny (model P w) A (.call (.ref f) args) (CR CX outer P w H s Q E) s
theorem cK.mono {P:Program} {w:World} {K:PySem.W.Frag} {mg:Str→Option Value} {base:Heap} {CX:CXT} {j k:Nat} {f:Addr} {fd:FuncData} {ps:List Str} {sp:Sp} (F:cK P w K mg base CX j f fd ps sp) (h:j≤k) :
   cK P w K mg base CX k f fd ps sp:=⟨F.len,fun A outer s H args us vs Q E hr=>F.run A outer s H args us vs Q E (hr.mono h)⟩
section
variable {X:Cx} {pins:List (Addr × Obj)} {σ:St} {H:Hp} {s s':Shared}
theorem Inv.LO (I:Inv X pins σ H s):ER X.prog X.w X.K X.mg X.base X.A X.stack s H:=
 ⟨I.ok.frames,I.ok.mod,I.bs,Nat.le_trans I.ok.bsz I.sz,I.stack,I.zo,I.hok,I.bare⟩
theorem Inv.after {Q:VK} {u:Value} (I:Inv X pins σ H s) (h:CE X.stack X.prog X.w H s Q u s'):EP X pins σ Q u s':=by
 obtain ⟨v,H',os,bare,un,hok,r,q⟩:=h
 obtain ⟨hh,g,d,t,os'⟩:=s'
 obtain rfl:os'=s.os:=os
 exact ⟨v,H',I.call (h':=hh) (g':=g) (d':=d) (t':=t) (ch:=[]) un hok bare (fun b z=>absurd z (by simp)),r,q⟩
end
noncomputable def Lg (sp:Sp) (dvs:List V) (E:XK) (t:TA):TE:=fun σ H Q=>t σ H fun vs H1=>sp (vs++dvs) H1 Q E
noncomputable def Binds (K:PySem.W.Frag) (fd:FuncData) (ps:List Str) (ds:List Value):Prop:=
 ∀ (s:Shared) (us:List Value),K.In s.heap→(us++ds).length=ps.length→BindsTo s fd ⟨us,[]⟩ (ps.zip (us++ds))
theorem Binds.all {K:PySem.W.Frag} {fd:FuncData} {ps:List Str} (h:∀ us:List Value,us.length=ps.length→bindArgs fd ⟨us,[]⟩=pure (ps.zip us)):Binds K fd ps []:=fun s us _ hl=>by
 rw [List.append_nil] at hl ⊢
 exact .of_eq (h us hl)
noncomputable def Passes (CX:CXT) (X:Cx) (E:XK):Prop:=∀ (pins:List (Addr × Obj)) (σ:St) (H:Hp) (s:Shared) (e:Value) (s':Shared),Inv X pins σ H s→CX X.stack H s E e s'→X.xe e s'
section
variable {X:Cx} {CX:CXT} {k:Nat} {f C:Addr} {fd:FuncData} {ps:List Str} {sp:Sp} {dvs:List V} {ds:List Value} {E:XK} {x m:Str} {p pos apos:Pos} {e o:Expr} {es:List Expr} {ta:TE} {t:TA}
theorem JN {pins:List (Addr × Obj)} {σ:St} {H:Hp} {s:Shared} {Q:VK} {us:List Value} {vs:List V} (F:cK X.prog X.w X.K X.mg X.base CX k f fd ps sp) (hr:j2 k X.A) (hb:Binds X.K fd ps ds) (hd:Vals dvs ds) (hx:Passes CX X E)
   (I:Inv X pins σ H s) (r:Vals vs us) (h:sp (vs++dvs) H Q E):wpAny (model X.prog X.w) X.A (call (.ref f) us) (EP X pins σ Q) X.xe s:=by
 have r2:Vals (vs++dvs) (us++ds):=r.append hd
 have hl:(us++ds).length=ps.length:=by rw [← r2.length]; exact F.len _ _ _ _ h
 refine wpAny_call (codeAny_mono (F.run X.A X.stack s H ⟨us,[]⟩ (us++ds) (vs++dvs) Q E hr I.LO (hb s us I.kIn hl) r2 h) fun r s' hq=>?_)
 cases r with
 | error e=>exact hx pins σ H s e s' I hq
 | ok fl=>
   cases fl with
   | ret u=>exact I.after hq
   | next=>exact False.elim hq
   | brk=>exact False.elim hq
   | cont=>exact False.elim hq
theorem DL (F:cK X.prog X.w X.K X.mg X.base CX k f fd ps sp) (hr:j2 k X.A) (hg:Gl X x) (hm:X.mg x=some (.ref f)) (hk:PySem.W.keepIn X.K (.ref f)=true) (hb:Binds X.K fd ps ds) (hd:Vals dvs ds) (hx:Passes CX X E)
   (ha:PA X (e :: es) t) (hdb:(x == ("__debug__" : Str))=false:=by decide) (he:starEach (e :: es) X.env=(false,eval e X.env) :: starEach es X.env:=by rfl) (hpl:(backTo pos (starEach es X.env)).any (·.1)=false:=by rfl) :
   PE X (.Call (.Name x p) (e :: es) [] pos) (Lg sp dvs E t):=by
 intro pins s σ H Q I h
 refine wpAny_Call_Name_kw (zd I hg hm ?_ hdb)
 refine PySem.W.callWith_K (h₀:=X.base) I.ok.mod.kin hk (thn (ha pos pins s σ H _ I h) fun us s1 ⟨vs,H1,I1,r,q⟩=>⟨I1.kIn,?_⟩) he hpl
 exact JN F hr hb hd hx I1 r q
end
section
variable {X:Cx} {CX:CXT} {k:Nat} {f C:Addr} {fd:FuncData} {ps ks:List Str} {sp:Sp} {E:XK} {x m:Str} {p pos apos kpos:Pos} {e o:Expr} {es:List Expr} {kws:List Keyword} {te ta:TE} {t tk:TA} {nm:Option Str}
variable {g:List Value→List Value→List Value} {gV:List V→List V→List V}
end
structure aQ (N P:List Str) (sc:Scope):Prop where
 kind:sc.kind=.function
 co:sc.isCoroutine=false
 gen:sc.isGenerator=false
 nd:N.Nodup
 pre:N.take P.length=P
 par:∀ x ∈ P,sc.names.lookup x=some .local∨sc.names.lookup x=some .cell
 nofree:∀ y ∈ sc.names,y.2 ≠ .free
theorem sZ {kindOf:Str→Option NameKind} {x:Str}:∀ {binds:List (Str × Value)} {m:Str→Option Value},(∀ v,(x,v) ∉ binds)→bindL kindOf binds m x=m x
 | [],_,_=>rfl
 | (n,v) :: r,m,h=>by
   unfold bindL
   rw [sZ fun w hw=>h w (List.mem_cons_of_mem _ hw)]
   split
   · have:x ≠ n:=by rintro rfl; exact h v List.mem_cons_self
     simp [this]
   · rfl
theorem sR {kindOf:Str→Option NameKind} {x:Str}:∀ {binds:List (Str × Value)} {m:Str→Option Value},(∀ v,(x,v) ∉ binds)→bindC kindOf binds m x=m x
 | [],_,_=>rfl
 | (n,v) :: r,m,h=>by
   unfold bindC
   rw [sR fun w hw=>h w (List.mem_cons_of_mem _ hw)]
   split
   · rfl
   · have:x ≠ n:=by rintro rfl; exact h v List.mem_cons_self
     simp [this]
theorem sG {kindOf:Str→Option NameKind} {x:Str} {v:Value}:∀ {P:List Str} {vs:List Value} {i:Nat} {m:Str→Option Value},P.Nodup→P[i]?=some x→vs[i]?=some v→kindOf x=some .local →
   bindL kindOf (P.zip vs) m x=some v
 | [],_,_,_,_,h,_,_=>by simp at h
 | _ :: _,[],_,_,_,_,h,_=>by simp at h
 | p :: P,w :: vs,0,m,nd,h1,h2,hk=>by
   simp at h1 h2; subst h1; subst h2
   show bindL kindOf ((p,w) :: P.zip vs) m p=_
   unfold bindL
   rw [sZ fun v hv=>(List.nodup_cons.mp nd).1 (List.of_mem_zip hv).1,if_pos hk]
   simp
 | p :: P,w :: vs,i + 1,m,nd,h1,h2,hk=>by
   show bindL kindOf ((p,w) :: P.zip vs) m x=_
   unfold bindL
   exact sG (i:=i) (List.nodup_cons.mp nd).2 (by simpa using h1) (by simpa using h2) hk
theorem sL {kindOf:Str→Option NameKind} {x:Str} {v:Value}:∀ {P:List Str} {vs:List Value} {i:Nat} {m:Str→Option Value},P.Nodup→P[i]?=some x→vs[i]?=some v→kindOf x ≠ some .local →
   bindC kindOf (P.zip vs) m x=some v
 | [],_,_,_,_,h,_,_=>by simp at h
 | _ :: _,[],_,_,_,_,h,_=>by simp at h
 | p :: P,w :: vs,0,m,nd,h1,h2,hk=>by
   simp at h1 h2; subst h1; subst h2
   show bindC kindOf ((p,w) :: P.zip vs) m p=_
   unfold bindC
   rw [sR fun v hv=>(List.nodup_cons.mp nd).1 (List.of_mem_zip hv).1,if_neg hk]
   simp
 | p :: P,w :: vs,i + 1,m,nd,h1,h2,hk=>by
   show bindC kindOf ((p,w) :: P.zip vs) m x=_
   unfold bindC
   exact sL (i:=i) (List.nodup_cons.mp nd).2 (by simpa using h1) (by simpa using h2) hk
noncomputable def start (N:List Str) (vs:List V):St:=vs.map some++List.replicate (N.length - vs.length) none
noncomputable def xK (CX:CXT) (P:Program) (w:World) (K:PySem.W.Frag) (mg:Str→Option Value) (base:Heap) (N:List Str) (qual:Str) (scope:Scope) (f:Addr) (cd:Value) (A:Around) (outer:List Env) (s:Shared) (H:Hp) (E:XK):Cx where
 prog:=P
 w:=w
 K:=K
 mg:=mg
 base:=base
 A:=A.deeper (envOfC qual scope s.heap.objs.size f cd)
 N:=N
 s₀:=s
 H₀:=H
 env:=envOfC qual scope s.heap.objs.size f cd
 outer:=outer
 stack:=envOfC qual scope s.heap.objs.size f cd :: outer
 ex:=[]
 calm:=true
 fn:=fun _=>true
 pn:=[]
 xe:=fun e s'=>wpAny (model P w) (A.deeper (envOfC qual scope s.heap.objs.size f cd)) (leaving (envOfC qual scope s.heap.objs.size f cd) e) (fun _ s''=>CX outer H s E e s'') (fun e' s''=>CX outer H s E e' s'') s'
theorem wK {sc:Scope} {n:Nat} {x:Str} (h:sc.names.lookup x=some .cell):∃ c,(cellsFrom n sc.names []).lookup x=some c:=by
 have q:=PySem.W.cellsFrom_some sc.names n [] (.inl h)
 exact Option.isSome_iff_exists.mp q
theorem Ae {CX:CXT} {P:Program} {w:World} {K:PySem.W.Frag} {mg:Str→Option Value} {base:Heap} {N ps:List Str} {qual:Str} {scope:Scope} {f:Addr} {cd:Value} {A:Around} {outer:List Env} {s s1:Shared} {H:Hp} {E:XK} {us:List Value} {vs:List V}
   (S:aQ N ps scope) (hd:A.handled=none) (e0:ER P w K mg base A outer s H) (hl:vs.length=ps.length) (r:Vals vs us)
   (x:InCallC s s.heap.objs.size (bindL (envOfC qual scope s.heap.objs.size f cd).kindOf (ps.zip us) fun _=>none) (cellsFrom (s.heap.objs.size + 1) scope.names []) (bindC (envOfC qual scope s.heap.objs.size f cd).kindOf (ps.zip us) fun _=>none) s1) :
   Inv (xK CX P w K mg base N qual scope f cd A outer s H E) [] (start N vs) H s1:=by
 have hpl:ps.length≤N.length:=by have:=congrArg List.length S.pre; rw [List.length_take] at this; omega
 obtain ⟨h1,tk,rfl,hk⟩:=x.done
 have noA:∀ b:Addr,b ∉ (xK CX P w K mg base N qual scope f cd A outer s H E).ex:=fun b z=>absurd (show b ∈ ([]:List Addr) from z) (by simp)
 refine ⟨⟨e0.mod,S.kind,rfl,rfl,Nat.le_refl _,fun y z c h1 h2=>?_,fun y hy=>?_,fun y c _ h=>?_,fun _=>hd,Around.frames_deeper e0.frames,.inr ⟨rfl,rfl⟩,fun b z=>absurd z (noA b),e0.bs,e0.bsz,fun b _ _=>noA b,fun b z=>absurd z (noA b),e0.qU,e0.frf⟩,
   rfl,e0.bare,Un.kept hk,⟨_,x.toInCall.ns,fun i y v h1 h2 h3=>?_⟩,fun y c h=>⟨_,x.cell y c h⟩,e0.hok.fresh (Nat.le_refl _),fun y c h=>?_,fun p hp=>absurd (show p ∈ ([]:List (Addr × Obj)) from hp) (by simp),e0.hok.kept hk,?_⟩
 · exact name_of_addr x.apart (PySem.mem_of_lookup h1) (PySem.mem_of_lookup h2)
 · have hy:scope.names.lookup y=some .cell∨scope.names.lookup y=some .free:=hy
   rcases hy with hy | hy
   · exact wK hy
   · exact absurd rfl (S.nofree _ (PySem.mem_of_lookup hy))
 · exact Nat.le_of_lt (x.above y c (PySem.mem_of_lookup h))
 · have hi:i < vs.length:=by
     unfold start at h2
     by_cases hi:i < vs.length
     · exact hi
     · rw [List.getElem?_append_right (by simpa using hi)] at h2
       rw [List.getElem?_replicate] at h2
       split at h2 <;> cases h2
   have ha:vs[i]?=some v:=by
     unfold start at h2
     rw [List.getElem?_append_left (by simpa using hi),List.getElem?_map] at h2
     cases e:vs[i]? with
     | none=>rw [e] at h2; cases h2
     | some a=>rw [e] at h2; cases h2; rfl
   obtain ⟨u,hu,rv⟩:=r.get ha
   have hp:ps[i]?=some y:=by
     rw [← S.pre,List.getElem?_take_of_lt (by omega)]; exact h1
   have ndP:ps.Nodup:=by rw [← S.pre]; exact S.nd.sublist (List.take_sublist _ _)
   refine ⟨u,rv,?_⟩
   rcases S.par y (List.mem_of_getElem? hp) with k | k
   · exact .inl ⟨k,sG ndP hp hu k⟩
   · obtain ⟨c,e⟩:=wK (n:=s.heap.objs.size + 1) k
     refine .inr ⟨.inl k,c,e,?_⟩
     have q:=x.cell y c e
     rw [sL ndP hp hu (by show scope.names.lookup y ≠ _; rw [k]; decide)] at q
     exact q
 · exact e0.hok.fresh (Nat.le_of_lt (x.above y c (PySem.mem_of_lookup h)))
 · unfold start
   show _=N.length
   rw [List.length_append,List.length_map,List.length_replicate]
   omega
theorem Lh {CX:CXT} {P:Program} {w:World} {K:PySem.W.Frag} {mg:Str→Option Value} {base:Heap} {k:Nat} {f:Addr} {name qual:Str} {params:Arguments} {body:List Stmt} {scope:Scope} {dV kV doc pm cdv ct oc:Value} {an od:Option Addr}
   {osl:Array (Option Value)} {N ps:List Str} {sp:Sp} (lk:K.lookup f=some ⟨oc,od,.func (PySem.W.fnOf name qual params body scope dV kV doc pm an cdv ct),osl⟩) (hcd:PySem.W.codeIn K cdv qual=true) (S:aQ N ps scope)
   (len:∀ vs H Q E,sp vs H Q E→vs.length=ps.length)
   (hbody:∀ (A:Around) (outer:List Env) (s:Shared) (H:Hp) (vs:List V) (Q:VK) (E:XK),j2 k (A.deeper (envOfC qual scope s.heap.objs.size f cdv))→sp vs H Q E →
     ∃ t,PSs (xK CX P w K mg base N qual scope f cdv A outer s H E) body t∧t { nx:=fun _ H'=>Q .non H',rt:=Q } (start N vs) H) :
   cK P w K mg base CX (k + 1) f (PySem.W.fnOf name qual params body scope dV kV doc pm an cdv ct) ps sp:=by
 refine ⟨len,fun A outer s H args us vs Q E hr e0 hb r hsp=>?_⟩
 have hl:=len _ _ _ _ hsp
 have KX:K.In s.heap:=e0.mod.kin.keeps fun b o e=>(e0.bs b o e).1
 have lim:s.heap.NoLimit:=e0.mod.nolimit.keeps fun b o e=>(e0.bs b o e).1
 have hkind:∀ y ∈ ps.zip us,scope.names.lookup y.1=some .local∨(scope.names.lookup y.1=some .cell∧((cellsFrom (s.heap.objs.size + 1) scope.names []).lookup y.1).isSome=true):=fun ⟨n,v⟩ hy=>by
   rcases S.par n (List.of_mem_zip hy).1 with q | q
   · exact .inl q
   · exact .inr ⟨q,PySem.W.cellsFrom_some _ _ _ (.inl q)⟩
 refine codeAny_call_function hr.depth (KX _ _ lk) rfl S.co S.gen rfl (PySem.W.codeRec_of KX hcd) (hb _ _ _ _ ?_)
 refine wpAny_newFunctionEnv_cells S.kind hkind fun env he s1 x=>?_
 subst he
 refine ⟨lim.keeps x.toInCall.keep,codeAny_func ?_⟩
 obtain ⟨t,ht,hq⟩:=hbody A outer s H vs Q E (hr.deeper _) hsp
 have I:Inv (xK CX P w K mg base N qual scope f cdv A outer s H E) [] (start N vs) H s1:=Ae S hr.hd e0 hl r x
 refine wpAny_mono (ht [] s1 (start N vs) H _ I hq) (fun fl s' hs=>?_) fun e s' hs=>hs
 have fin:∀ {σ':St} {H':Hp} {v:V} {u:Value},Inv (xK CX P w K mg base N qual scope f cdv A outer s H E) [] σ' H' s'→RelV v u→Q v H'→CE outer P w H s Q u s':=
   fun {σ' H' v u} J rv q=>⟨v,H',J.os,J.bare,J.base,J.hok,rv,q⟩
 cases fl with
 | ret u=>
   obtain ⟨v,σ',H',J,rv,q⟩:=hs
   exact fin J rv q
 | next=>
   obtain ⟨σ',H',J,q⟩:=hs
   exact fin (v:=V.non) (u:=Value.none) J rfl q
 | brk=>
   obtain ⟨_,_,_,q⟩:=hs
   exact False.elim q
 | cont=>
   obtain ⟨_,_,_,q⟩:=hs
   exact False.elim q
end L2
namespace L2
open PySem PySem.Spec PyProof.Rows
section
variable {X:Cx} {x:Str} {p pos:Pos} {e:Expr} {es:List Expr} {t:TA} {id T:String} {r:List V→Hp→VK→Prop}
noncomputable def tCB (r:List V→Hp→VK→Prop) (t:TA):TE:=fun σ H Q=>t σ H fun vs H1=>r vs H1 Q
theorem iE (hc:fN X (.builtin id) r) (hg:Gl X x) (hm:X.mg x=none) (hv:bootBuiltins x=some (.builtin id)) (ha:PA X (e :: es) t) (hn:x ≠ "__name__":=by decide) (hdb:(x == ("__debug__" : Str))=false:=by decide)
   (he:starEach (e :: es) X.env=(false,eval e X.env) :: starEach es X.env:=by rfl) (hpl:(backTo pos (starEach es X.env)).any (·.1)=false:=by rfl):PE X (.Call (.Name x p) (e :: es) [] pos) (tCB r t):=by
 intro pins s σ H Q I h
 refine wpAny_Call_Name_kw (jQ I hg hm hv ?_ hn hdb)
 exact PyProof.Rows.callWith_builtin1 (thn (ha pos pins s σ H _ I h) fun us s1 ⟨vs,H1,I1,r1,q1⟩=>hc pins s1 σ H1 vs us Q I1 r1 q1) he hpl
theorem nQ (hc:fN X (.type T) r) (hg:Gl X x) (hm:X.mg x=none) (hv:bootBuiltins x=some (.type T)) (ha:PA X (e :: es) t) (hn:x ≠ "__name__":=by decide) (hdb:(x == ("__debug__" : Str))=false:=by decide)
   (he:starEach (e :: es) X.env=(false,eval e X.env) :: starEach es X.env:=by rfl) (hpl:(backTo pos (starEach es X.env)).any (·.1)=false:=by rfl):PE X (.Call (.Name x p) (e :: es) [] pos) (tCB r t):=by
 intro pins s σ H Q I h
 refine wpAny_Call_Name_kw (jQ I hg hm hv ?_ hn hdb)
 exact PyProof.Rows.callWith_type1 (thn (ha pos pins s σ H _ I h) fun us s1 ⟨vs,H1,I1,r1,q1⟩=>hc pins s1 σ H1 vs us Q I1 r1 q1) he hpl
end
end L2
namespace HT
open PySem PyProof.Rows
section
open PySem.SeqAt
open PySem.AutoSeq1 (wpAny_loadPart')
open PySem.MeetsSeq PySem.MeetsSeq2 PySem.MeetsSeq3
end
section
variable {prog:Program} {w:World} {A:Around} {E:Value→Shared→Prop} {s:Shared}
theorem EV {t b:Addr} {vs ws:List Value} {Q:Value→Shared→Prop} (ht:IsTup s.heap t vs.toArray) (hb:IsTup s.heap b ws.toArray) (hv:vs ≠ [])
   (h1:ws=[]→Q (.ref t) s) (h2:ws ≠ []→Q (.ref s.heap.objs.size) { s with heap:=s.heap.push { cls:=.type "tuple",data:=.seq (vs++ws).toArray } })
   (hsz:vs.length + ws.length≤sizeLine):wpAny (model prog w) A (binaryOp .Add (.ref t) (.ref b)) Q E s:=by
 obtain ⟨⟨cls,dd,data,sl⟩,ho,hc,n,hd⟩:=id ht
 obtain ⟨⟨cls2,dd2,data2,sl2⟩,ho2,hc2,n2,hd2⟩:=id hb
 simp only at hc hd hc2 hd2
 subst hc hd hc2 hd2
 have e:vs.toArray++ws.toArray=(vs++ws).toArray:=by simp
 by_cases hw:ws=[]
 · exact concat_meets ⟨_,ho,rfl⟩ ⟨_,ho2,rfl⟩ noFill_tuple_add seq_tuple_add PySem.F.slot_tuple_add PySem.F.entry_tuple_add (PySem.F.args_tuple_add_2 _ _)
     (tuple_addW1 t b vs.toArray ws.toArray n n2 dd dd2 sl sl2 (by simpa using hv) (by simp [hw])) ⟨ho,ho2,h1 hw⟩
 · refine concat_meets ⟨_,ho,rfl⟩ ⟨_,ho2,rfl⟩ noFill_tuple_add seq_tuple_add PySem.F.slot_tuple_add PySem.F.entry_tuple_add (PySem.F.args_tuple_add_2 _ _)
     (tuple_addW2 t b vs.toArray ws.toArray n n2 dd dd2 sl sl2 (by simpa using hv) (by simpa using hw) (by rw [List.size_toArray,List.size_toArray]; exact hsz)) ⟨ho,ho2,?_⟩
   rw [e]
   exact h2 hw
noncomputable def sIx (n d:Nat):Option Int→Nat
 | none=>d
 | some v=>if v < 0 then (v + (n:Int)).toNat else min v.toNat n
theorem wC (n d:Nat):sIx n d none=d:=rfl
theorem zv (n d k:Nat):sIx n d (some (k:Int))=min k n:=by
 show (if (k:Int) < 0 then ((k:Int) + (n:Int)).toNat else min (k:Int).toNat n)=min k n
 rw [if_neg (by omega),Int.toNat_natCast]
end
end HT
namespace L2
open PySem PySem.Spec PyProof.Rows
noncomputable abbrev TO:=St→Hp→(Option Int→Hp→Prop)→Prop
noncomputable def PO (X:Cx) (e:Option Expr) (t:TO):Prop:=
 ∀ (pins:List (Addr × Obj)) (s:Shared) (σ:St) (H:Hp) (Q:Option Int→Hp→Prop),Inv X pins σ H s→t σ H Q →
   wpAny (model X.prog X.w) X.A (evalPart e X.env) (fun u s'=>∃ o H',Inv X pins σ H' s'∧IsPart u o∧Q o H') X.xe s
noncomputable def EB:TO:=fun _ H Q=>Q none H
noncomputable def Kj (t:TE):TO:=fun σ H Q=>t σ H fun x H1=>∃ i,x=.int i∧Q (some i) H1
section
variable {X:Cx} {e:Expr} {te:TE} {lo hi:Option Expr} {tl th:TO} {pos p2:Pos}
theorem Ea:PO X none EB:=by
 intro pins s σ H Q I h
 rw [evalPart_none]
 exact wpAny_pure ⟨none,H,I,.none,h⟩
theorem FD (h:PE X e te):PO X (some e) (Kj te):=by
 intro pins s σ H Q I hw
 rw [evalPart_some]
 refine thn (h pins s σ H _ I hw) fun u s1 ⟨x,H1,I1,r1,q1⟩=>?_
 obtain ⟨i,rfl,q⟩:=q1
 obtain ⟨t,rfl⟩:=r1
 exact ⟨some i,H1,I1,.int i t,q⟩
noncomputable def SlR (X:Cx) (r:V→Option Int→Option Int→Hp→VK→Prop):Prop:=
 ∀ (pins:List (Addr × Obj)) (s:Shared) (σ:St) (H:Hp) (x:V) (v vl vu:Value) (lo hi:Option Int) (sl:Addr) (Q:VK),Inv X pins σ H s→RelV x v→s.heap.IsSliceOf sl vl vu .none→IsPart vl lo→IsPart vu hi→r x lo hi H Q →
   ∃ T id,typeLookup (.type T) "__getitem__" = pure (some (.builtin id))∧s.TypeIs v T∧wpAny (model X.prog X.w) X.A (getItem v (.ref sl)) (EP X pins σ Q) X.xe s
noncomputable def tSl (r:V→Option Int→Option Int→Hp→VK→Prop) (te:TE) (tl th:TO):TE:=fun σ H Q=>te σ H fun x H1=>tl σ H1 fun l H2=>th σ H2 fun u H3=>r x l u H3 Q
theorem CC {r:V→Option Int→Option Int→Hp→VK→Prop} (hr:SlR X r) (he:PE X e te) (hl:PO X lo tl) (hu:PO X hi th):PE X (.Subscript e (.Slice lo hi none p2) pos) (tSl r te tl th):=by
 intro pins s σ H Q I h
 refine Subscript_ (thn (he pins s σ H _ I h) fun v s1 ⟨x,H1,I1,r1,q1⟩=>?_)
 refine wpAny_Slice (thn (hl pins s1 σ H1 _ I1 q1) fun vl s2 ⟨l,H2,I2,pl,q2⟩=>thn (hu pins s2 σ H2 _ I2 q2) fun vu s3 ⟨u,H3,I3,pu,q3⟩=>?_)
 rw [evalPart_none]
 refine wpAny_pure ?_
 have I4:Inv X pins σ H3 { s3 with heap:=s3.heap.push { cls:=.type "slice",data:=.fields #[vl,vu,.none] } }:=I3.kept (t':=s3.toks) fun b ob q=>Heap.get?_push_of_some _ q
 obtain ⟨T,id,hT,ht,hg⟩:=hr pins { s3 with heap:=s3.heap.push { cls:=.type "slice",data:=.fields #[vl,vu,.none] } } σ H3 x v vl vu l u s3.heap.objs.size Q I4 r1 (Heap.IsSliceOf.new ..) pl pu q3
 show wpAny (model X.prog X.w) X.A (subscriptTail e (.Slice lo hi none p2) v (.ref s3.heap.objs.size)) (EP X pins σ Q) X.xe { s3 with heap:=s3.heap.push { cls:=.type "slice",data:=.fields #[vl,vu,.none] } }
 exact tail_any (ops:=[.ref s3.heap.objs.size,v]) ht hT hg (by with_unfolding_all rfl)
noncomputable def AM (xs:List V) (lo hi:Option Int):List V:=(xs.drop (HT.sIx xs.length 0 lo)).take (HT.sIx xs.length xs.length hi - HT.sIx xs.length 0 lo)
theorem vj (xs:List V) (lo hi:Option Int):(AM xs lo hi).length≤xs.length:=by
 unfold AM
 rw [List.length_take,List.length_drop]
 omega
noncomputable def Kw (K:PySem.W.Frag):R2:=fun x y H Q=>∃ a b xs ys,x=.ref a∧y=.ref b∧SqT K H a xs∧SqT K H b ys∧xs ≠ []∧xs.length + ys.length≤sizeLine ∧
 (ys=[]→Q (.ref a) H)∧(ys ≠ []→∀ p,H p=none→Q (.ref p) (upd H p (.tup (xs++ys))))
theorem Vals.uD {xs:List V} {us:List Value} (r:Vals xs us):us=[] ↔ xs=[]:=by
 cases r with
 | nil=>simp
 | cons _ _=>simp
theorem Fo:OpR X (binaryOp .Add) (Kw X.K):=by
 intro pins s σ H x y v u Q I rx ry h
 obtain ⟨a,b,xs,ys,rfl,rfl,ha,hb,hx,hz,q1,q2⟩:=h
 cases rx
 cases ry
 obtain ⟨its,r1,p1,_⟩:=I.tuple ha
 obtain ⟨its2,r2,p2,_⟩:=I.tuple hb
 refine HT.EV p1 p2 (fun z=>hx (r1.uD.mp z)) (fun z=>⟨.ref a,H,I,rfl,q1 (r2.uD.mp z)⟩) (fun z=>?_) (by rw [← r1.length,← r2.length]; exact hz)
 refine ⟨.ref s.heap.objs.size,_,I.laid (t':=s.toks) (o:=.tup (xs++ys)) (fun b ob q=>Heap.get?_push_of_some _ q) (Nat.le_refl _) ?_,rfl,q2 (fun w=>z (r2.uD.mpr w)) _ (I.hok.fresh (Nat.le_refl _))⟩
 exact ⟨by rw [List.length_append]; exact hz,_,r1.append r2,IsTup.new _ _⟩
end
end L2
namespace L2
open PySem PySem.Spec PyProof.Rows
noncomputable def ixN (n:Nat) (i:Int):Option Nat:=if 0≤i then (if i < n then some i.toNat else none) else if -(n:Int)≤i then some (i + n).toNat else none
noncomputable def atI {α:Type} (xs:List α) (i:Int):Option α:=(ixN xs.length i).bind fun j=>xs[j]?
theorem tE {n:Nat} {i:Int} {j:Nat} (h:ixN n i=some j):seqIndex? i n=some j∧j < n∧-(n:Int)≤i∧i < n:=by
 unfold ixN at h
 by_cases h0:0≤i
 · rw [if_pos h0] at h
   by_cases h1:i < n
   · rw [if_pos h1] at h
     have e:i.toNat=j:=Option.some.inj h
     exact ⟨by rw [seqIndex_of h0 h1,e],by omega,by omega,h1⟩
   · rw [if_neg h1] at h; cases h
 · rw [if_neg h0] at h
   by_cases h1:-(n:Int)≤i
   · rw [if_pos h1] at h
     have e:(i + n).toNat=j:=Option.some.inj h
     exact ⟨by rw [seqIndex_neg (by omega) h1,e],by omega,h1,by omega⟩
   · rw [if_neg h1] at h; cases h
theorem yT {α:Type} {xs:List α} {i:Int} {v:α} (h:atI xs i=some v):∃ j,seqIndex? i xs.length=some j∧xs[j]?=some v∧j < xs.length∧-(xs.length:Int)≤i∧i < xs.length:=by
 unfold atI at h
 cases e:ixN xs.length i with
 | none=>rw [e] at h; cases h
 | some j=>
   rw [e] at h
   obtain ⟨h1,h2,h3,h4⟩:=tE e
   exact ⟨j,h1,h,h2,h3,h4⟩
noncomputable def y7 (b:Expr):Prop:=∀ o i,subscripted b false o i=operate [o,i] (getItem o i)
noncomputable def IxR (X:Cx) (r:R2):Prop:=
 ∀ (value slice:Expr) (pins:List (Addr × Obj)) (s:Shared) (σ:St) (H:Hp) (x y:V) (v u:Value) (Q:VK),Inv X pins σ H s→RelV x v→RelV y u→r x y H Q →
   subscripted slice false v u=operate [v,u] (getItem v u)→wpAny (model X.prog X.w) X.A (subscriptTail value slice v u) (EP X pins σ Q) X.xe s
noncomputable def MtR (X:Cx) (id:String) (r:V→List V→Hp→VK→Prop):Prop:=
 ∀ (pins:List (Addr × Obj)) (s:Shared) (σ:St) (H:Hp) (x:V) (xs:List V) (v:Value) (us:List Value) (Q:VK),Inv X pins σ H s→RelV x v→Vals xs us→r x xs H Q →
   wpAny (model X.prog X.w) X.A (call (.builtin id) (v :: us)) (EP X pins σ Q) X.xe s
section
variable {X:Cx} {a b:Expr} {ta tb:TE} {pos:Pos}
theorem J7 {r:R2} (hr:IxR X r) (ha:PE X a ta) (hb:PE X b tb) (hs:y7 b):PE X (.Subscript a b pos) (tOp r ta tb):=by
 intro pins s σ H Q I h
 exact Subscript_ (HH ha hb I h fun v u s2 x y H2 I2 rx ry q=>hr a b pins s2 σ H2 x y v u Q I2 rx ry q (hs _ _))
noncomputable def Mc (K:PySem.W.Frag):R2:=fun x y H Q=>∃ p xs i v,x=.ref p∧y=.int i∧SqL K H p xs∧atI xs i=some v∧Q v H
noncomputable def L6 (K:PySem.W.Frag):R2:=fun x y H Q=>∃ p xs i v,x=.ref p∧y=.int i∧SqT K H p xs∧atI xs i=some v∧Q v H
theorem EY:IxR X (Mc X.K):=by
 intro value slice pins s σ H x y v u Q I rx ry h hs
 obtain ⟨p,xs,i,z,rfl,rfl,hq,he,q⟩:=h
 cases rx
 obtain ⟨t,rfl⟩:=ry
 obtain ⟨its,r,pl,hz⟩:=I.list hq
 obtain ⟨j,h1,h2,h3,h4,h5⟩:=yT he
 obtain ⟨w,ew,rw'⟩:=r.get h2
 have hl:=r.length
 have hn:=uG
 have fin:EP X pins σ Q w s:=⟨z,H,I,rw',q⟩
 by_cases h0:0≤i
 · have hj:i.toNat=j:=by
     rw [seqIndex_of h0 h5] at h1
     exact Option.some.inj h1
   exact item_listR pl.isList h0 (by omega) (by rw [hj]; simpa using ew) fin hs
 · have hj:(i + (its.toArray.size:Int)).toNat=j:=by
     rw [seqIndex_neg (by omega) h4] at h1
     rw [List.size_toArray,← hl]
     exact Option.some.inj h1
   exact subscriptTail_builtinR (x:=w) pl.isList.typeIs slot_list_getitem.lookup
     (wpAny_getItem_list_neg (Q:=fun r s'=>r=w∧EP X pins σ Q r s') pl.isList (by omega) (by rw [List.size_toArray] <;> omega) (by omega) (by rw [hj]; simpa using ew) ⟨rfl,fin⟩) hs
theorem Ip:IxR X (L6 X.K):=by
 intro value slice pins s σ H x y v u Q I rx ry h hs
 obtain ⟨p,xs,i,z,rfl,rfl,hq,he,q⟩:=h
 cases rx
 obtain ⟨t,rfl⟩:=ry
 obtain ⟨its,r,pl,hz⟩:=I.tuple hq
 obtain ⟨j,h1,h2,h3,h4,h5⟩:=yT he
 obtain ⟨w,ew,rw'⟩:=r.get h2
 have hl:=r.length
 have hn:=uG
 have fin:EP X pins σ Q w s:=⟨z,H,I,rw',q⟩
 exact subscriptTail_builtinR (x:=w) pl.typeIs slot_tuple_getitem.lookup
   (getItem_tuple (j:=j) (Q:=fun r s'=>r=w∧EP X pins σ Q r s') pl (by omega) (by omega) (by rw [List.size_toArray,← hl]; exact h1) (by simpa using ew) ⟨rfl,fin⟩) hs
theorem yu (its:List Value) (n j:Nat) (u:Value):Obj.mapSeq (·.setIfInBounds j u) { cls:=.type "list",data:=.seq its.toArray n }={ cls:=.type "list",data:=.seq (its.set j u).toArray n }:=by
 simp [Obj.mapSeq]
theorem Inv.lst {pins:List (Addr × Obj)} {σ:St} {H:Hp} {s:Shared} {p:Addr} {xs:List V} (I:Inv X pins σ H s) (h:H p=some (.lst xs)) :
   ∃ (its:List Value) (n:Nat),Vals xs its∧s.heap.get? p=some { cls:=.type "list",data:=.seq its.toArray n }∧xs.length≤sizeLine:=by
 obtain ⟨z,its,n,r,e⟩:=I.hok p _ h
 exact ⟨its,n,r,e,z⟩
theorem Inv.Ij {pins:List (Addr × Obj)} {σ:St} {H:Hp} {s:Shared} {p:Addr} {xs ys:List V} {its its':List Value} {n n':Nat} {f:Obj→Obj} (I:Inv X pins σ H s) (h:H p=some (.lst xs))
   (ho:s.heap.get? p=some { cls:=.type "list",data:=.seq its.toArray n }) (hf:f { cls:=.type "list",data:=.seq its.toArray n }={ cls:=.type "list",data:=.seq its'.toArray n' }) (r:Vals ys its') (hz:ys.length≤sizeLine) (t:Nat) :
   Inv X pins σ (upd H p (.lst ys)) { s with heap:=s.heap.update p f,toks:=t }:=by
 have e:(s.heap.update p f).get? p=some { cls:=.type "list",data:=.seq its'.toArray n' }:=by
   rw [Heap.get?_update_self f ho (by rw [hf] <;> rfl),hf]
 refine I.write (x:=p) (e:=p) (by rw [h]; trivial) (.inl rfl) (fun b u hb q=>(Heap.get?_update_other _ _ (Ne.symm hb)).trans q) ⟨_,e⟩ ?_
 exact ⟨hz,its',n',r,e⟩
noncomputable def Kh:V→V→V→Hp→(Hp→Prop)→Prop:=fun o i v H Q=>∃ p xs k j,o=.ref p∧i=.int k∧H p=some (.lst xs)∧ixN xs.length k=some j∧Q (upd H p (.lst (xs.set j v)))
theorem set_list:JQ X Kh:=by
 intro pins s σ H o i v ov iv u Q I ro ri rv h
 obtain ⟨p,xs,k,j,rfl,rfl,hp,hj,q⟩:=h
 cases ro
 obtain ⟨t,rfl⟩:=ri
 obtain ⟨its,n,r,ho,hz⟩:=I.lst hp
 obtain ⟨h1,h2,h3,h4⟩:=tE hj
 have hl:=r.length
 have hn:=uG
 have I':Inv X pins σ (upd H p (.lst (xs.set j v))) { s with heap:=s.heap.update p (Obj.mapSeq (·.setIfInBounds j u)) }:=
   I.Ij hp ho (yu its n j u) (r.set rv j) (by rw [List.length_set]; exact hz) s.toks
 by_cases h0:0≤k
 · have hk:k.toNat=j:=by
     rw [seqIndex_of h0 h4] at h1
     exact Option.some.inj h1
   exact PySem.W.ki_setAt ho h0 (by omega) (by rw [List.size_toArray,← hl]; exact h4) (by rw [hk]; exact ⟨_,I',q⟩)
 · have hk:(k + (its.toArray.size:Int)).toNat=j:=by
     rw [seqIndex_neg (by omega) h3] at h1
     rw [List.size_toArray,← hl]
     exact Option.some.inj h1
   exact PySem.W.ki_setBack ho (by omega) (by rw [List.size_toArray,← hl]; exact h3) (by omega) (by rw [hk]; exact ⟨_,I',q⟩)
theorem tY (lo hi:Option Int) (n:Nat):(sliceBounds lo hi none n).1=((HT.sIx n 0 lo:Nat):Int)∧(sliceBounds lo hi none n).2.1=((HT.sIx n n hi:Nat):Int)∧(sliceBounds lo hi none n).2.2=1:=by
 refine ⟨?_,?_,rfl⟩
 · cases lo with
   | none=>simp [sliceBounds,HT.sIx]
   | some i=>
     simp only [sliceBounds,HT.sIx,Option.getD_none,show (1:Int) > 0 by decide,if_true]
     by_cases h:i < 0
     · simp only [h,if_true] <;> omega
     · simp only [h,if_false] <;> omega
 · cases hi with
   | none=>simp [sliceBounds,HT.sIx]
   | some i=>
     simp only [sliceBounds,HT.sIx,Option.getD_none,show (1:Int) > 0 by decide,if_true]
     by_cases h:i < 0
     · simp only [h,if_true] <;> omega
     · simp only [h,if_false] <;> omega
theorem sr (its:List Value) (lo hi:Option Int):slicePick its.toArray lo hi none=((its.drop (HT.sIx its.length 0 lo)).take (HT.sIx its.length its.length hi - HT.sIx its.length 0 lo)).toArray:=by
 obtain ⟨h1,h2,h3⟩:=tY lo hi its.toArray.size
 unfold slicePick
 rw [h1,h2,h3]
 simp only [sliceRange_one,pick_run,List.size_toArray] <;> rfl
noncomputable def Mb (K:PySem.W.Frag):V→Option Int→Option Int→Hp→VK→Prop:=fun x lo hi H Q=>∃ a xs,x=.ref a∧SqL K H a xs∧∀ p,H p=none→Q (.ref p) (upd H p (.lst (AM xs lo hi)))
theorem Eh:SlR X (Mb X.K):=by
 intro pins s σ H x v vl vu lo hi sl Q I rx hs pl pu h
 obtain ⟨a,xs,rfl,hx,q⟩:=h
 cases rx
 obtain ⟨its,r,ht,hz⟩:=I.list hx
 have hlen:=r.length
 refine ⟨"list",_,slot_list_getitem.lookup,ht.isList.typeIs,?_⟩
 refine wpAny_getItem_list_slice ht.isList hs pl pu .none (by simp) ?_ (by rw [List.size_toArray] <;> omega)
 rw [sr,← hlen]
 refine ⟨.ref s.heap.objs.size,_,I.laid (t':=s.toks) (o:=.lst (AM xs lo hi)) (fun b ob q=>Heap.get?_push_of_some _ q) (Nat.le_refl _) ?_,rfl,q _ (I.hok.fresh (Nat.le_refl _))⟩
 exact ⟨Nat.le_trans (vj xs lo hi) hz,_,0,(r.drop (HT.sIx xs.length 0 lo)).take (HT.sIx xs.length xs.length hi - HT.sIx xs.length 0 lo),Heap.get?_push_size _ rfl⟩
theorem uA:fN X (.builtin "len") (fun xs H Q=>∃ p ys,xs=[.ref p]∧(SqL X.K H p ys∨SqT X.K H p ys)∧Q (.int ys.length) H):=by
 intro pins s σ H xs us Q I r h
 obtain ⟨p,ys,rfl,hq,q⟩:=h
 obtain ⟨u,rfl,rx⟩:=vals1 r
 cases rx
 have hn:=uG
 rcases hq with hq | hq
 · obtain ⟨its,r',pl,hz⟩:=I.list hq
   have hlen:=r'.length
   exact Calls.call_len_list pl.isList (by simp only [List.size_toArray] <;> omega) ⟨.int ys.length,H,I.tok _,⟨s.toks + 1,by rw [List.size_toArray,hlen]⟩,q⟩
 · obtain ⟨its,r',pl,hz⟩:=I.tuple hq
   have hlen:=r'.length
   exact len_tuple pl (by simp only [List.size_toArray] <;> omega) ⟨.int ys.length,H,I.tok _,⟨s.toks + 1,by rw [List.size_toArray,hlen]⟩,q⟩
theorem ua:fN X (.type "list") (fun xs H Q=>∃ p ys,xs=[.ref p]∧(SqL X.K H p ys∨SqT X.K H p ys)∧∀ l,H l=none→Q (.ref l) (upd H l (.lst ys))):=by
 intro pins s σ H xs us Q I r h
 obtain ⟨p,ys,rfl,hq,q⟩:=h
 obtain ⟨u,rfl,rx⟩:=vals1 r
 cases rx
 have fin:∀ (its:List Value),Vals ys its→ys.length≤sizeLine→∀ (h':Heap) (c':Nat),(∀ b o',s.heap.get? b=some o'→h'.get? b=some o') →
     h'.get? s.heap.objs.size=some { cls:=.type "list",dict:=none,data:=.seq its.toArray c',slots:=#[] }→EP X pins σ Q (.ref s.heap.objs.size) { s with heap:=h' }:=fun its r' hz h' c' kp e=>
   ⟨.ref s.heap.objs.size,_,I.laid (t':=s.toks) kp (Nat.le_refl _) (show iA X.prog X.w _ h' _ (.lst ys) from ⟨hz,its,c',r',e⟩),rfl,q _ (I.hok.fresh (Nat.le_refl _))⟩
 rcases hq with hq | hq
 · obtain ⟨its,r',pl,hz⟩:=I.list hq
   have hlen:=r'.length
   obtain ⟨o,ho,hc,n,hd⟩:=pl.isList
   exact call_list_seq p (.inl rfl) ho hc hd (fun h' c' kp e=>fin its r' hz h' c' kp e) (by simp only [List.size_toArray] <;> omega)
 · obtain ⟨its,r',pl,hz⟩:=I.tuple hq
   have hlen:=r'.length
   obtain ⟨o,ho,hc,n,hd⟩:=pl
   exact call_list_seq p (.inr rfl) ho hc hd (fun h' c' kp e=>fin its r' hz h' c' kp e) (by simp only [List.size_toArray] <;> omega)
theorem lj:fN X (.type "tuple") (fun xs H Q=>∃ p ys,xs=[.ref p]∧((SqL X.K H p ys∧∀ l,H l=none→Q (.ref l) (upd H l (.tup ys)))∨(SqT X.K H p ys∧Q (.ref p) H))):=by
 intro pins s σ H xs us Q I r h
 obtain ⟨p,ys,rfl,h⟩:=h
 obtain ⟨u,rfl,rx⟩:=vals1 r
 cases rx
 rcases h with ⟨hq,q⟩ | ⟨hq,q⟩
 · obtain ⟨its,r',pl,hz⟩:=I.list hq
   have hlen:=r'.length
   refine call_tuple_list pl.isList (fun h' kp=>?_) (by simp only [List.size_toArray] <;> omega)
   have I1:Inv X pins σ H { s with heap:=h' }:=I.kept (t':=s.toks) kp
   have I2:Inv X pins σ (upd H h'.objs.size (.tup ys)) { s with heap:=h'.push { cls:=.type "tuple",data:=.seq its.toArray } }:=
     I1.laid (t':=s.toks) (fun b o e=>Heap.get?_push_of_some _ e) (Nat.le_refl _) (show iA X.prog X.w _ _ _ (.tup ys) from ⟨hz,its,r',IsTup.new _ _⟩)
   exact ⟨.ref h'.objs.size,_,I2,rfl,q _ (I1.hok.fresh (Nat.le_refl _))⟩
 · obtain ⟨its,r',pl,hz⟩:=I.tuple hq
   exact call_tuple_same pl ⟨.ref p,H,I,rfl,q⟩
noncomputable def tyV (K:PySem.W.Frag) (T:String) (x:V) (H:Hp):Prop:=match x with
 | .str _=>T = "str"
 | .int _=>T = "int"
 | .ref p=>(T = "list" ∧ ∃ xs,SqL K H p xs)∨(T = "tuple" ∧ ∃ o,K.lookup p=some o∧o.cls=.type "tuple" ∧ o.dict=none) ∨
     (T = "dict" ∧ ((∃ kvs,H p=some (.dK kvs))∨∃ kvs,H p=some (.dT kvs)))∨(T = "set" ∧ ∃ S n,H p=some (.set S n))
 | _=>False
theorem Cg {pins:List (Addr × Obj)} {σ:St} {H:Hp} {s:Shared} {T:String} {x:V} {v:Value} (I:Inv X pins σ H s) (r:RelV x v) (ty:tyV X.K T x H) :
   s.TypeIs v T∧∀ a,v=.ref a→∃ ob,s.heap.get? a=some ob∧ob.dict=none:=by
 cases x with
 | str z=>
   obtain ⟨t,rfl⟩:=r
   cases (show T = "str" from ty)
   exact ⟨typeIs_str s z t,fun _ e=>nomatch e⟩
 | int i=>
   obtain ⟨t,rfl⟩:=r
   cases (show T = "int" from ty)
   exact ⟨typeIs_int s i t,fun _ e=>nomatch e⟩
 | ref p=>
   cases r
   rcases ty with ⟨rfl,xs,hq⟩ | ⟨rfl,o,hk,hc,hd⟩ | ⟨rfl,hk⟩ | ⟨rfl,S,n,hk⟩
   · obtain ⟨its,_,pl,_⟩:=I.list hq
     refine ⟨pl.isList.typeIs,fun a e=>?_⟩
     cases e
     obtain ⟨o,n,e,c,hd,_⟩:=pl
     exact ⟨o,e,hd⟩
   · refine ⟨⟨o,I.kIn p o hk,hc⟩,fun a e=>?_⟩
     cases e
     exact ⟨o,I.kIn _ o hk,hd⟩
   · have z:∃ o,s.heap.get? p=some o∧o.ExactDict:=by
       rcases hk with ⟨kvs,hk⟩ | ⟨kvs,hk⟩
       · obtain ⟨_,_,_,_,o,_,_,e,ex,_⟩:=I.hok p _ hk
         exact ⟨o,e,ex⟩
       · obtain ⟨_,_,_,_,o,_,_,e,ex,_⟩:=I.hok p _ hk
         exact ⟨o,e,ex⟩
     obtain ⟨o,e,ex⟩:=z
     refine ⟨⟨o,e,ex.1⟩,fun a e2=>?_⟩
     cases e2
     exact ⟨o,e,ex.2.1⟩
   · obtain ⟨o,_,_,_,e,ex,_⟩:=I.hok p _ hk
     refine ⟨⟨o,e,ex.1⟩,fun a e2=>?_⟩
     cases e2
     exact ⟨o,e,ex.2.1⟩
 | _=>exact False.elim ty
noncomputable def Kx (K:PySem.W.Frag) (T:String) (r:V→List V→Hp→VK→Prop) (to:TE):TE:=fun σ H Q=>to σ H fun x H1=>tyV K T x H1∧r x [] H1 Q
noncomputable def tBM (K:PySem.W.Frag) (T:String) (r:V→List V→Hp→VK→Prop) (to:TE) (t:TA):TE:=fun σ H Q=>to σ H fun x H1=>tyV K T x H1∧t σ H1 fun xs H2=>r x xs H2 Q
variable {o e:Expr} {es:List Expr} {to:TE} {t:TA} {name:Str} {apos cpos:Pos} {T id:String} {r:V→List V→Hp→VK→Prop}
theorem Cq (pa:PlainAttrs T) (slot:Slot T name id) (hty:typeOf (.builtin id)=pure (.type "method_descriptor")) (hm:MtR X id r) (ho:PE X o to)
   (hbase:attributeBase o name X.env (eval o X.env)=eval o X.env:=by rfl) (hline:(apos.endLine == cpos.line)=true:=by rfl):PE X (.Call (.Attribute o name apos) [] [] cpos) (Kx X.K T r to):=by
 intro pins s σ H Q I h
 refine wpAny_Call_method0_late hbase hline (thn (ho pins s σ H _ I h) fun v s1 ⟨x,H1,I1,r1,ty,q1⟩=>?_)
 obtain ⟨h1,h2⟩:=Cg I1 r1 ty
 exact ⟨T,id,pa,slot,hty,h1,h2,Calls.callWith_builtin rfl (PySem.evalArgs_none (hm pins s1 σ H1 x [] v [] Q I1 r1 .nil q1))⟩
theorem zj (pa:PlainAttrs T) (slot:Slot T name id) (hty:typeOf (.builtin id)=pure (.type "method_descriptor")) (hm:MtR X id r) (ho:PE X o to) (ha:PA X (e :: es) t)
   (hbase:attributeBase o name X.env (eval o X.env)=eval o X.env:=by rfl)
   (hfew:((backTo cpos (starEach (e :: es) X.env)).all (fun x=>!x.1) && (backToKw cpos (keywordEach [] X.env)).all (fun x=>x.1.isSome)
     && decide ((e :: es).length + ([]:List Keyword).length + (if ([]:List Keyword).isEmpty then 0 else 1) < 30))=true:=by rfl)
   (hline:(apos.endLine == cpos.line)=true:=by rfl) (hs:starEach (e :: es) X.env=(false,eval e X.env) :: starEach es X.env:=by rfl) (hplain:(backTo cpos (starEach es X.env)).any (·.1)=false:=by rfl) :
   PE X (.Call (.Attribute o name apos) (e :: es) [] cpos) (tBM X.K T r to t):=by
 intro pins s σ H Q I h
 refine wpAny_Call_method_late hbase hfew hline rfl (thn (ho pins s σ H _ I h) fun v s1 ⟨x,H1,I1,r1,ty,q1⟩=>?_)
 obtain ⟨h1,h2⟩:=Cg I1 r1 ty
 refine ⟨T,id,pa,slot,hty,h1,h2,?_⟩
 have hA:=ha cpos pins s1 σ H1 _ I1 q1
 rw [hs] at hA ⊢
 refine Calls.callWith_builtin (by show (false || (backTo cpos (starEach es X.env)).any (·.1))=false; rw [hplain] <;> rfl) (Calls.evalArgs_plain ?_)
 exact thn hA fun us s2 ⟨vs,H2,I2,r2,q2⟩=>hm pins s2 σ H2 x vs v us Q I2 r1 r2 q2
end
end L2
namespace L2
open PySem PySem.Spec PyProof.Rows
noncomputable def MtM (X:Cx) (id:String) (r:V→List V→Hp→VK→Prop):Prop:=
 ∀ (pins:List (Addr × Obj)) (s:Shared) (σ:St) (H:Hp) (x:V) (xs:List V) (v:Value) (us:List Value) (Q:VK),Inv X pins σ H s→RelV x v→Vals xs us→r x xs H Q →
   wpAny (model X.prog X.w) X.A (call (.builtin id) (v :: us)) (EP X pins σ Q) X.xe s
theorem Vals.one {x:V} {us:List Value} (r:Vals [x] us):∃ u,us=[u]∧RelV x u:=vals1 r
theorem Vals.two {x y:V} {us:List Value} (r:Vals [x,y] us):∃ u v,us=[u,v]∧RelV x u∧RelV y v:=vals2 r
theorem Vals.zero:∀ {us:List Value},Vals [] us→us=[]
 | _,.nil=>rfl
theorem Vals.dropLast {xs:List V} {us:List Value} (h:Vals xs us):Vals xs.dropLast us.dropLast:=by
 induction h with
 | nil=>exact .nil
 | cons r t ih=>
   cases t with
   | nil=>exact .nil
   | cons q t'=>exact .cons r ih
theorem Vals.eraseIdx:∀ {xs:List V} {us:List Value} (i:Nat),Vals xs us→Vals (xs.eraseIdx i) (us.eraseIdx i)
 | _,_,_,.nil=>.nil
 | _,_,0,.cons _ t=>t
 | _,_,i + 1,.cons r t=>.cons r (Vals.eraseIdx i t)
theorem Vals.reverse {xs:List V} {us:List Value} (h:Vals xs us):Vals xs.reverse us.reverse:=by
 induction h with
 | nil=>exact .nil
 | cons r t ih=>rw [List.reverse_cons,List.reverse_cons]; exact Vals.append ih (.cons r .nil)
theorem Vals.rep {xs:List V} {us:List Value} (h:Vals xs us):∀ k:Nat,Vals (List.replicate k xs).flatten (List.replicate k us).flatten
 | 0=>.nil
 | k + 1=>by
   rw [List.replicate_succ,List.replicate_succ,List.flatten_cons,List.flatten_cons]
   exact Vals.append h (Vals.rep h k)
theorem xN {α:Type} (l:List α):l.eraseIdx (l.length - 1)=l.dropLast:=by
 induction l with
 | nil=>rfl
 | cons a r ih=>
   cases r with
   | nil=>rfl
   | cons b r=>
     have e:(a :: b :: r).length - 1=((b :: r).length - 1) + 1:=by
       have h1:(a :: b :: r).length=r.length + 2:=rfl
       have h2:(b :: r).length=r.length + 1:=rfl
       omega
     rw [e,List.eraseIdx_cons_succ,ih]
     all_goals rfl
theorem sx {α:Type}:∀ (l:List α) (i:Nat),(l.eraseIdx i).length≤l.length
 | [],_=>Nat.le_refl _
 | _ :: _,0=>Nat.le_succ _
 | _ :: r,i + 1=>Nat.succ_le_succ (sx r i)
theorem foldl_rep (its:List Value):∀ (k:Nat) (acc:List Value),
   List.foldl (fun x1 x2=>x1++x2) acc.toArray (List.replicate k its.toArray)=(acc++(List.replicate k its).flatten).toArray
 | 0,acc=>by simp
 | k + 1,acc=>by
   have e:acc.toArray++its.toArray=(acc++its).toArray:=by simp
   have e2:(acc++its)++(List.replicate k its).flatten=acc++(List.replicate (k + 1) its).flatten:=by
     rw [List.replicate_succ,List.flatten_cons,List.append_assoc]
   rw [← e2,← foldl_rep its k (acc++its),← e,List.replicate_succ,List.foldl_cons]
section
variable {X:Cx} {pins:List (Addr × Obj)} {σ:St} {H:Hp} {s:Shared} {l b:Addr} {xs ys zs:List V}
theorem Inv.AO {its its':List Value} {n:Nat} {f:Array Value→Array Value} {t':Nat} (I:Inv X pins σ H s) (hH:H l=some (.lst xs))
   (e:s.heap.get? l=some { cls:=.type "list",data:=.seq its.toArray n }) (hf:f its.toArray=its'.toArray) (hv:Vals ys its') (hz:ys.length≤sizeLine) :
   Inv X pins σ (upd H l (.lst ys)) { s with heap:=s.heap.update l (Obj.mapSeq f),toks:=t' }:=by
 have q:=PySem.IsL.update e f
 rw [hf] at q
 refine I.write (x:=l) (e:=l) (by rw [hH]; exact trivial) (.inl rfl) (fun b' u hb hu=>(Heap.get?_update_other s.heap (Obj.mapSeq f) (Ne.symm hb)).trans hu) ⟨_,q⟩ ?_
 exact ⟨hz,its',_,hv,q⟩
theorem Inv.KW {its:List Value} {t':Nat} (I:Inv X pins σ H s) (hv:Vals ys its) (hz:ys.length≤sizeLine) :
   Inv X pins σ (upd H s.heap.objs.size (.lst ys)) { s with heap:=s.heap.push { cls:=.type "list",data:=.seq its.toArray },toks:=t' }:=
 I.laid (fun _ _ q=>Heap.get?_push_of_some _ q) (Nat.le_refl _) ⟨hz,its,0,hv,Heap.get?_push_size _ rfl⟩
theorem Inv.fresh (I:Inv X pins σ H s):H s.heap.objs.size=none:=I.hok.fresh (Nat.le_refl _)
theorem Inv.xq (I:Inv X pins σ H s) (hH:H l=some (.lst xs)):xs.length≤sizeLine∧∃ (its:List Value) (n:Nat),Vals xs its∧xs.length=its.length∧s.heap.get? l=some { cls:=.type "list",data:=.seq its.toArray n }:=by
 obtain ⟨z,its,n,r,e⟩:=I.hok l _ hH
 exact ⟨z,its,n,r,r.length,e⟩
theorem vm {n:Nat} (h:n≤sizeLine):Builtin.List.listTooLong n=false:=by
 unfold Builtin.List.listTooLong
 exact decide_eq_false (by omega)
end
section
variable {X:Cx}
noncomputable def Fq:V→List V→Hp→VK→Prop:=fun x vs H Q=>∃ l xs y,x=.ref l∧vs=[y]∧H l=some (.lst xs)∧xs.length < sizeLine∧Q .non (upd H l (.lst (xs++[y])))
theorem oi:MtM X "list.append" Fq:=by
 intro pins s σ H x vs v us Q I rx rv h
 obtain ⟨l,xs,y,rfl,rfl,hH,hz,q⟩:=h
 cases rx
 obtain ⟨u,rfl,ru⟩:=rv.one
 obtain ⟨z,its,n,r,hl,e⟩:=I.xq hH
 refine call_meets F.slot_list_append ⟨_,e,rfl⟩ F.entry_list_append (F.args_list_append_2 _ _) (PySem.list_append l its.toArray n u (by rw [List.size_toArray]; omega)) ⟨e,?_⟩
 refine ⟨.non,_,I.AO (its':=its++[u]) hH e (by simp) (r.append (.cons ru .nil)) ?_,rfl,q⟩
 rw [List.length_append,List.length_singleton]
 omega
noncomputable def DO:V→List V→Hp→VK→Prop:=fun x vs H Q=>∃ l b xs zs,x=.ref l∧vs=[.ref b]∧H l=some (.lst xs)∧H b=some (.lst zs)∧xs.length + zs.length≤sizeLine∧Q .non (upd H l (.lst (xs++zs)))
theorem zY:MtM X "list.extend" DO:=by
 intro pins s σ H x vs v us Q I rx rv h
 obtain ⟨l,b,xs,zs,rfl,rfl,hH,hB,hz,q⟩:=h
 cases rx
 obtain ⟨u,rfl,ru⟩:=rv.one
 cases ru
 obtain ⟨z,its,n,r,hl,e⟩:=I.xq hH
 obtain ⟨z2,its2,n2,r2,hl2,e2⟩:=I.xq hB
 have hsz:its.toArray.size + its2.toArray.size≤sizeLine:=by rw [List.size_toArray,List.size_toArray]; omega
 have hlong:¬ (!its.toArray.isEmpty && Builtin.List.listTooLong (its.toArray.size + its2.toArray.size))=true:=by
   rw [vm hsz,Bool.and_false]
   exact Bool.false_ne_true
 refine call_meets F.slot_list_extend ⟨_,e,rfl⟩ F.entry_list_extend (F.args_list_extend_2 _ _)
   (AutoSeq1.list_extend_list_list_0 l its.toArray n b its2.toArray n2 hlong (by rw [List.size_toArray]; omega) (by omega)) ⟨e,e2,?_⟩
 refine ⟨.non,_,I.AO (its':=its++its2) hH e (by simp) (r.append r2) ?_,rfl,q⟩
 rw [List.length_append]
 omega
noncomputable def L7:V→List V→Hp→VK→Prop:=fun x vs H Q=>∃ l xs y,x=.ref l∧vs=[]∧H l=some (.lst xs)∧xs[xs.length - 1]?=some y∧Q y (upd H l (.lst xs.dropLast))
theorem Gs:MtM X "list.pop" L7:=by
 intro pins s σ H x vs v us Q I rx rv h
 obtain ⟨l,xs,y,rfl,rfl,hH,hy,q⟩:=h
 cases rx
 have hus:=rv.zero
 subst hus
 obtain ⟨z,its,n,r,hl,e⟩:=I.xq hH
 obtain ⟨u,hu,ru⟩:=r.get hy
 have hy':its.toArray[its.toArray.size - 1]?=some u:=by
   show its.toArray[its.length - 1]?=some u
   rw [← Array.getElem?_toList,← hl]
   exact hu
 refine call_meets F.slot_list_pop ⟨_,e,rfl⟩ F.entry_list_pop (F.args_list_pop_1 _) (MeetsSeq.list_pop_last l its.toArray n u hy' (by rw [List.size_toArray]; omega)) ⟨e,?_⟩
 refine ⟨y,_,I.AO (its':=its.dropLast) hH e ?_ r.dropLast ?_,ru,q⟩
 · show its.toArray.eraseIdxIfInBounds (its.toArray.size - 1)=its.dropLast.toArray
   rw [List.size_toArray,List.eraseIdxIfInBounds_toArray,xN]
 · rw [List.length_dropLast]
   omega
noncomputable def Gp:V→List V→Hp→VK→Prop:=fun x vs H Q=>∃ l xs i k y,x=.ref l∧vs=[.int i]∧H l=some (.lst xs)∧-(2 ^ 63)≤i∧i < 2 ^ 63∧seqIndex? i xs.length=some k∧xs[k]?=some y∧Q y (upd H l (.lst (xs.eraseIdx k)))
theorem Dy:MtM X "list.pop" Gp:=by
 intro pins s σ H x vs v us Q I rx rv h
 obtain ⟨l,xs,i,k,y,rfl,rfl,hH,h1,h2,hk,hy,q⟩:=h
 cases rx
 obtain ⟨u,rfl,ru⟩:=rv.one
 obtain ⟨t,rfl⟩:=ru
 obtain ⟨z,its,n,r,hl,e⟩:=I.xq hH
 obtain ⟨w,hw,rw'⟩:=r.get hy
 refine call_meets F.slot_list_pop ⟨_,e,rfl⟩ F.entry_list_pop (F.args_list_pop_2 _ _)
   (MeetsSeq.list_pop_at l its.toArray n i t k w (fitsIndex_both h1 h2) (by rw [List.size_toArray,← hl]; exact hk) (by rw [← Array.getElem?_toList]; exact hw) (by rw [List.size_toArray]; omega)) ⟨e,?_⟩
 refine ⟨y,_,I.AO (its':=its.eraseIdx k) hH e ?_ (r.eraseIdx k) ?_,rw',q⟩
 · show its.toArray.eraseIdxIfInBounds k=(its.eraseIdx k).toArray
   rw [List.eraseIdxIfInBounds_toArray]
 · have:=sx xs k
   omega
noncomputable def Ha:V→List V→Hp→VK→Prop:=fun x vs H Q=>∃ l xs,x=.ref l∧vs=[]∧H l=some (.lst xs)∧Q .non (upd H l (.lst []))
theorem BW:MtM X "list.clear" Ha:=by
 intro pins s σ H x vs v us Q I rx rv h
 obtain ⟨l,xs,rfl,rfl,hH,q⟩:=h
 cases rx
 have hus:=rv.zero
 subst hus
 obtain ⟨z,its,n,r,hl,e⟩:=I.xq hH
 refine call_meets F.slot_list_clear ⟨_,e,rfl⟩ F.entry_list_clear (F.args_list_clear_1 _) (AutoSeq1.list_clear_list_0 l its.toArray n (by rw [List.size_toArray]; omega)) ⟨e,?_⟩
 exact ⟨.non,_,I.AO (its':=[]) (ys:=[]) hH e rfl .nil (Nat.zero_le _),rfl,q⟩
theorem len_rep {α:Type} (xs:List α) (k:Nat):(List.replicate k xs).flatten.length=k * xs.length:=by
 induction k with
 | zero=>simp
 | succ k ih=>rw [List.replicate_succ,List.flatten_cons,List.length_append,ih,Nat.succ_mul,Nat.add_comm]
end
section
variable {prog:Program} {w:World} {A:Around} {E:Value→Shared→Prop} {s:Shared}
end
section
variable {X:Cx}
end
end L2
namespace Att
open PySem PySem.W PySem.Calls PyProof.Rows
theorem oY {P:Params} {h:Heap}:∀ (ns:List Int) (vs:List Value),WellAll P h vs (ns.map WData.int)→IntsAre vs ns:=by
 intro ns
 induction ns with
 | nil=>
   intro vs w
   rw [List.map_nil] at w
   cases w
   exact .nil
 | cons n ns ih=>
   intro vs w
   rw [List.map_cons] at w
   cases w with
   | cons a b=>
     cases a
     exact .cons _ _ (ih _ b)
theorem zT {l:OpenLaw} {n:Nat} (hn:l.most=some n) {P:Params} {h:Heap} {args:List WData} {vals:List Value}
   (hpre:l.row.toRowW.claim.pre args=true) (hwl:WellAll P h vals args) :
   ∃ a vs ns,vals=[Value.ref a]∧args=[WData.list (ns.map WData.int)]∧h.get? a=some { cls:=.type "list",data:=.seq vs.toArray }∧IntsAre vs ns∧ns.length≤n:=by
 have hsh:WShape.hasAll [] args [.list .int]=true:=(pre_splitW hpre).1
 have hc:l.pre.holds [] { args:=args }=true:=(pre_splitW hpre).2
 obtain ⟨d,r,rfl,h1,h2⟩:=hasAllW_cons hsh
 obtain rfl:=hasAllW_nil h2
 obtain ⟨xs,rfl,h3⟩:=hasW_list h1
 obtain ⟨ns,rfl⟩:=items_int h3
 have hlen:ns.length≤n:=by
   unfold OpenLaw.pre at hc
   have h4:(WTm.not (.lt (.lit (.int (n:Int))) (.len (.arg 0)))).holds [] { args:=[.list (ns.map .int)] }=true:=by
     have h4:=(holds_andW hc).1
     rw [hn] at h4
     exact h4
   have h5:=condW_of h4 (w_not (w_lt w_lit (w_len_list (w_arg rfl))))
   rw [List.length_map] at h5
   refine Nat.le_of_not_lt fun q=>?_
   have q':(n:Int) < ((ns.length:Nat):Int):=by omega
   first
     | (rw [decide_eq_true q'] at h5; exact absurd h5 (by decide))
     | (simp at h5; omega)
 cases hwl with
 | cons w1 w2=>
   cases w2
   cases w1 with
   | list ho hall=>exact ⟨_,_,ns,rfl,rfl,ho,oY ns _ hall,hlen⟩
theorem zR (l:OpenLaw) (args:List WData):l.row.toRowW.claim.post args (.bool true) args=true:=
 postW_of (r:=l.row.toRowW) (X:=(true == true))
   (show WShape.has [] (.bool true) .bool=true by first | rfl | decide | simp [WShape.has,WShape.arms,WShape.armsAll])
   (show (WTm.eq .res (.lit (.bool true))).value [] { args:=args,res:=some (.bool true),after:=args }=some (.bool (true == true)) from w_eq_bool (w_res rfl) w_lit) rfl
theorem vn {l:OpenLaw} {n:Nat} {q:Program} {loose:List Str} {XP:(Str→Option Value)→Heap→Prop} {YP:World→Heap→Prop} {d:DefRec}
   (hn:l.most=some n) (hdf:d.params.defaults=[])
   (call:∀ (w:World) (s₀ s₁:Shared) (mg mb:Str→Option Value) (fa:Addr) (o:Obj) (pm cd doc:Value) (a:Addr) (vs:List Value) (ns:List Int),
     Ground q loose [] XP w s₀ mg mb s₁.heap→YP w s₁.heap →
     s₁.heap.get? fa=some o→o.data=.func (docDef d.name d.params d.body d.scope pm cd doc)→s₁.heap.CodeRec cd d.name→mg d.name=some (.ref fa) →
     s₁.heap.get? a=some { cls:=.type "list",data:=.seq vs.toArray }→IntsAre vs ns→ns.length≤n→s₁.gens=#[] →
     codeAny (model l.prog w) callerA (.call (.ref fa) ⟨[.ref a],[]⟩) (fun r s'=>r=.ok (.ret (.bool true))∧OldK s₁.heap s'.heap∧s'.os=s₁.os∧AllBare s'.gens) s₁) :
   WalkO q loose XP YP l.row.toRowW d [] (fun f vs=>PySem.call f vs):=by
 intro w s₀ s₁ mg mb G Y fa o pm cd doc dV kV ho hd hcd hD hmg hg args vals as hpre hlay hrd hwl hlo
 obtain rfl:dV=.none:=Dflts.none hD hdf
 obtain rfl:kV=.none:=Dflts.noKw hD
 obtain ⟨a,vs,ns,rfl,rfl,hobj,hints,hlen⟩:=zT hn hpre hwl
 refine enter_call (codeAny_mono (call w s₀ s₁ mg mb fa o pm cd doc a vs ns G Y ho (fd_plain hd) hcd hmg hobj hints hlen hg) fun r s' hq=>?_)
 obtain ⟨rfl,h2,h3,h4⟩:=hq
 exact ⟨.inl ⟨.bool true,.bool true,[],rfl,fun _=>rfl,.bool true,zR l _,fun _=>⟨List.Pairwise.nil,fun _ hm=>(nomatch hm)⟩⟩,h2,h3,h4⟩
section
variable {prog:Program} {w:World} {A:Around} {E:Value→Shared→Prop} {s:Shared} {K:Frag}
end
end Att
namespace L2
open PySem PySem.Spec PyProof.Rows
theorem sQ:∀ {vs:List Value} {ns:List Int},IntsAre vs ns→Vals (ns.map V.int) vs
 | _,_,.nil=>.nil
 | _,_,.cons n t h=>.cons ⟨t,rfl⟩ (sQ h)
noncomputable def E9 (H:Hp):Prop:=∀ b,H b=none∨∃ o xs,H b=some (.frz o (.lst xs))
theorem CW {P:Program} {w:World} {K:PySem.W.Frag} {mg mb:Str→Option Value} {CX:CXT} {k:Nat} {fa a:Addr} {fd:FuncData} {x:Str} {sp:Sp} {s₁:Shared} {vs:List Value} {ns:List Int}
   (KX:K.In s₁.heap) (hns:s₁.heap.Ns mainGlobals mg) (hb:s₁.heap.Ns builtinsNs mb) (hbb:∀ x:Str,x ≠ "__name__" → mb x=bootBuiltins x) (hlim:s₁.heap.NoLimit) (hg:s₁.gens=#[])
   (ha:s₁.heap.get? a=some { cls:=.type "list",data:=.seq vs.toArray }) (hi:IntsAre vs ns) (hl:ns.length≤sizeLine) (hr:j2 k callerA)
   (F:∀ base:Heap,K.In base→base.Ns mainGlobals mg→cK P w K mg base CX k fa fd [x] sp) (hbind:∀ (s:Shared) (u:Value),BindsTo s fd ⟨[u],[]⟩ [(x,u)])
   (hsp:∀ H:Hp,E9 H→SqL K H a (ns.map V.int)→sp [.ref a] H (fun v _=>v=.bl true) fun _ _ _=>False)
   (hCX:∀ H e s',CX [] H s₁ (fun _ _ _=>False) e s'→False) :
   codeAny (model P w) callerA (.call (.ref fa) ⟨[.ref a],[]⟩) (fun r s'=>r=.ok (.ret (.bool true))∧OldK s₁.heap s'.heap∧s'.os=s₁.os∧AllBare s'.gens) s₁:=by
 have rv:=sQ hi
 have lenV:=hi.length
 have core:∀ H:Hp,E9 H→SqL K H a (ns.map V.int)→HOk P w H s₁.heap→(∀ b,H b ≠ none→b=a)→(H a ≠ none→K.lookup a=none) →
     codeAny (model P w) callerA (.call (.ref fa) ⟨[.ref a],[]⟩) (fun r s'=>r=.ok (.ret (.bool true))∧OldK s₁.heap s'.heap∧s'.os=s₁.os∧AllBare s'.gens) s₁:=by
   intro H hO hS hok hA hK
   have pM:∀ {b:Addr} {o:Obj},s₁.heap.get? b=some o→H b=none→(tM s₁.heap H).get? b=some o:=fun e n=>B8 e n
   have noA:∀ {b:Addr} {o:Obj} {es:Array DictEntry} {ep:Nat},s₁.heap.get? b=some o→o.data=.dict es ep→H b=none:=fun {b o es ep} e d=>by
     cases q:H b with
     | none=>rfl
     | some u=>
       have e':b=a:=hA b (by rw [q]; simp)
       subst e'
       rw [ha] at e; cases e
       have d':Data.seq vs.toArray _=Data.dict es ep:=d
       cases d'
   have nsK:∀ {b:Addr} {m:Str→Option Value},s₁.heap.Ns b m→(tM s₁.heap H).Ns b m:=fun {b m} ⟨o,es,ep,e,d,r⟩=>⟨o,es,ep,pM e (noA e d),d,r⟩
   have hKb:K.In (tM s₁.heap H):=fun b o e=>pM (KX b o e) (by
     cases q:H b with
     | none=>rfl
     | some u=>
       have e':b=a:=hA b (by rw [q]; simp)
       subst e'
       rw [hK (by rw [q]; simp)] at e; cases e)
   have hM:Mod K mg (tM s₁.heap H):=⟨hKb,nsK hns,⟨mb,nsK hb,hbb⟩,let ⟨mc,h1,h2⟩:=hlim; ⟨mc,nsK h1,h2⟩⟩
   have e0:ER P w K mg (tM s₁.heap H) callerA [] s₁ H:=⟨rfl,hM,fun b o e=>DS e,Nat.le_of_eq (Aj _ _),trivial,fun b hb=>absurd (show b ∈ ([]:List Addr) from hb) (by simp),hok,.of_eq hg⟩
   refine codeAny_mono ((F _ hKb (nsK hns)).run callerA [] s₁ H ⟨[.ref a],[]⟩ [.ref a] [.ref a] _ _ hr e0 (hbind s₁ (.ref a)) (.cons rfl .nil) (hsp H hO hS)) fun r s' h=>?_
   cases r with
   | error e=>exact (hCX H e s' h).elim
   | ok fl=>
     cases fl with
     | next=>exact False.elim h
     | brk=>exact False.elim h
     | cont=>exact False.elim h
     | ret u=>
       obtain ⟨v,H',os,bare,un,hok',r',q⟩:=h
       have q':v=.bl true:=q
       subst q'
       obtain rfl:u=Value.bool true:=r'
       refine ⟨rfl,OldK.of_keep fun b o e=>?_,os,bare⟩
       cases q:H b with
       | none=>exact un.keep b o e q (by intro z; exact absurd (show b ∈ ([]:List Addr) from z) (by simp)) (by simp)
       | some u=>
         rcases hO b with z | ⟨ob,xs,z⟩
         · rw [q] at z; cases z
         · have z2:=un.frzs b ob _ z
           obtain ⟨e1,_⟩:=hok b _ z
           obtain ⟨e2,_⟩:=hok' b _ z2
           rw [e] at e1; cases e1
           exact e2
 cases hk:K.lookup a with
 | some o=>
   have e:=KX a o hk
   rw [ha] at e
   cases e
   refine core (fun _=>none) (fun _=>.inl rfl) (.inr ⟨_,vs.toArray,_,hk,rfl,rfl,rfl,by rw [List.size_toArray,lenV]; exact hl,by simpa using rv⟩) (fun b u z=>by have z':(none:Option HO)=some u:=z; cases z') (fun b z=>absurd rfl z) fun z=>absurd rfl z
 | none=>
   refine core (fun b=>if b=a then some (.frz { cls:=.type "list",data:=.seq vs.toArray } (.lst (ns.map V.int))) else none) (fun b=>?_) (.inl (.inr ⟨{ cls:=.type "list",data:=.seq vs.toArray },if_pos rfl⟩)) (fun b u z=>?_) (fun b z=>?_) fun _=>hk
   · by_cases hb:b=a
     · exact .inr ⟨_,_,if_pos hb⟩
     · exact .inl (if_neg hb)
   · by_cases hb:b=a
     · have z':=(if_pos hb).symm.trans z
       cases z'
       subst hb
       exact ⟨ha,by rw [List.length_map]; exact hl,vs,_,rv,ha⟩
     · have z':=(if_neg hb).symm.trans z
       cases z'
   · by_cases hb:b=a
     · exact hb
     · exact absurd (if_neg hb) z
end L2
namespace L2
open PySem PySem.Spec PyProof.Rows
theorem Fg {l:PySem.W.OpenLaw} {n k:Nat} {q:Program} {loose:List Str} {XP:(Str→Option Value)→Heap→Prop} {YP:World→Heap→Prop} {d:DefRec} {K:Params→PySem.W.Frag} {CX:World→CXT} {sp:World→Sp} {x:Str}
   (hn:l.most=some n) (hn2:n≤sizeLine) (hdf:d.params.defaults=[]) (hr:j2 k callerA)
   (hY:∀ (w:World) (h:Heap),YP w h→(K w.params).In h)
   (F:∀ (w:World) (mg:Str→Option Value) (fa:Addr) (h:Heap),(K w.params).In h→h.Ns mainGlobals mg→mg d.name=some (.ref fa) →
     ∃ fd:FuncData,(∀ (s:Shared) (u:Value),BindsTo s fd ⟨[u],[]⟩ [(x,u)]) ∧
       ∀ base:Heap,(K w.params).In base→base.Ns mainGlobals mg→cK l.prog w (K w.params) mg base (CX w) k fa fd [x] (sp w))
   (hsp:∀ (w:World) (H:Hp) (a:Addr) (ns:List Int),ns.length≤n→E9 H→SqL (K w.params) H a (ns.map V.int)→sp w [.ref a] H (fun v _=>v=.bl true) fun _ _ _=>False)
   (hCX:∀ (w:World) (H:Hp) (s:Shared) (e:Value) (s':Shared),CX w [] H s (fun _ _ _=>False) e s'→False) :
   PySem.W.WalkO q loose XP YP l.row.toRowW d [] (fun f vs=>PySem.call f vs):=by
 refine Att.vn hn hdf fun w s₀ s₁ mg mb fa o pm cd doc a vs ns G Y ho hd hcd hmg hobj hints hlen hg=>?_
 have KX:=hY w _ Y
 obtain ⟨fd,hb,hF⟩:=F w mg fa _ KX G.T.g hmg
 exact CW KX G.T.g G.T.b G.T.builtins G.T.nolimit hg hobj hints (Nat.le_trans hlen hn2) hr hF hb (fun H hO hS=>hsp w H a ns hlen hO hS) fun H e s'=>hCX w H s₁ e s'
end L2
namespace L2
open PySem PySem.Spec PyProof.Rows
noncomputable def aS (s:Stmt):Arguments:=match s with
 | .FunctionDef _ a _ _ _ _ _ _ _ _=>a
 | _=>{ posonlyargs:=[],args:=[],vararg:=none,kwonlyargs:=[],kw_defaults:=[],kwarg:=none,defaults:=[] }
noncomputable def ak (s:Stmt):List Stmt:=match s with
 | .FunctionDef _ _ b _ _ _ _ _ _ _=>b
 | _=>[]
noncomputable def ab (s:Stmt):Scope:=match s with
 | .FunctionDef _ _ _ _ _ _ sc _ _ _=>sc
 | _=>{ kind:=.function,names:=[],isGenerator:=false,isCoroutine:=false }
noncomputable abbrev CX0:CXT:=fun _ _ _ _ _ _=>False
structure Fun (K:PySem.W.Frag) (x qual:Str) (st:Stmt) (f:Addr) (fd:FuncData):Prop where
 ex:∃ (oc:Value) (od:Option Addr) (dV kV doc pm:Value) (an:Option Addr) (cdv ct:Value) (osl:Array (Option Value)),
   fd=PySem.W.fnOf x qual (aS st) (ak st) (ab st) dV kV doc pm an cdv ct∧K.lookup f=some ⟨oc,od,.func fd,osl⟩∧PySem.W.codeIn K cdv qual=true
 kp:PySem.W.keepIn K (.ref f)=true
section
variable {P:Program} {w:World} {K:PySem.W.Frag} {mg:Str→Option Value} {base:Heap}
theorem Fun.ok {x qual:Str} {st:Stmt} {f:Addr} {fd:FuncData} {N ps:List Str} {k:Nat} {sp:Sp} (F:Fun K x qual st f fd) (S:aQ N ps (ab st)) (len:∀ vs H Q E,sp vs H Q E→vs.length=ps.length)
   (hbody:∀ (cdv:Value) (A:Around) (outer:List Env) (s:Shared) (H:Hp) (vs:List V) (Q:VK) (E:XK),j2 k (A.deeper (envOfC qual (ab st) s.heap.objs.size f cdv))→sp vs H Q E →
     ∃ t,PSs (xK CX0 P w K mg base N qual (ab st) f cdv A outer s H E).nox (ak st) t∧t { nx:=fun _ H'=>Q .non H',rt:=Q } (start N vs) H):cK P w K mg base CX0 (k + 1) f fd ps sp:=by
 obtain ⟨oc,od,dV,kV,doc,pm,an,cdv,ct,osl,rfl,lk,hcd⟩:=F.ex
 refine Lh lk hcd S len fun A outer s H vs Q E hr hsp=>?_
 obtain ⟨t,h,q⟩:=hbody cdv A outer s H vs Q E hr hsp
 exact ⟨t,h.nox,q⟩
theorem Fun.binds {x qual:Str} {st:Stmt} {f:Addr} {fd:FuncData} {ps:List Str} (_:Fun K x qual st f fd) (h:∀ us:List Value,us.length=ps.length→bindArgs fd ⟨us,[]⟩=pure (ps.zip us)):Binds K fd ps []:=.all h
theorem bE {x qual:Str} {st:Stmt} {f:Addr} {oc:Value} {od an:Option Addr} {osl:Array (Option Value)} {dV kV doc pm cdv ct:Value} (l:K.lookup f=some ⟨oc,od,.func (PySem.W.fnOf x qual (aS st) (ak st) (ab st) dV kV doc pm an cdv ct),osl⟩)
   (c:PySem.W.codeIn K cdv qual=true) (k:PySem.W.keepIn K (.ref f)=true):Fun K x qual st f (PySem.W.fnOf x qual (aS st) (ak st) (ab st) dV kV doc pm an cdv ct):=⟨⟨oc,od,dV,kV,doc,pm,an,cdv,ct,osl,rfl,l,c⟩,k⟩
end
section
variable {X:Cx}
end
theorem rY {A B:Prop} (h:B):if false=true then A else B:=by
 rw [if_neg Bool.false_ne_true]
 exact h
theorem sj {A B:Prop} (h:A):if true=true then A else B:=by
 rw [if_pos rfl]
 exact h
noncomputable def nY (H H':Hp):Prop:=∀ b o,H b=some o→H' b=some o
theorem nY.refl (H:Hp):nY H H:=fun _ _ h=>h
theorem nY.seq {K:PySem.W.Frag} {H H':Hp} {a:Addr} {xs:List V} (e:nY H H') (h:SqL K H a xs):SqL K H' a xs:=by
 rcases h with (h | ⟨o,h⟩) | h
 · exact .inl (.inl (e _ _ h))
 · exact .inl (.inr ⟨o,e _ _ h⟩)
 · exact .inr h
end L2
set_option linter.all false
set_option maxRecDepth 100000
namespace Ev
open PySem PySem.Spec PyProof.Rows L2
inductive D where
 | non | bl (b:Bool) | int (i:Int) | str (x:Str) | tup (xs:List D) | lst (xs:List D)
 deriving Inhabited
mutual
inductive Den (K:PySem.W.Frag) (H:Hp):V→D→Prop where
 | non:Den K H .non .non
 | bl {b:Bool}:Den K H (.bl b) (.bl b)
 | int {i:Int}:Den K H (.int i) (.int i)
 | str {x:Str}:Den K H (.str x) (.str x)
 | tup {a:Addr} {vs:List V} {ds:List D} (h:SqT K H a vs) (r:xm K H vs ds):Den K H (.ref a) (.tup ds)
 | lst {a:Addr} {vs:List V} {ds:List D} (h:SqL K H a vs) (r:xm K H vs ds):Den K H (.ref a) (.lst ds)
inductive xm (K:PySem.W.Frag) (H:Hp):List V→List D→Prop where
 | nil:xm K H [] []
 | cons {v:V} {d:D} {vs:List V} {ds:List D} (h:Den K H v d) (r:xm K H vs ds):xm K H (v :: vs) (d :: ds)
end
section
variable {K:PySem.W.Frag} {H H':Hp}
theorem kf (e:nY H H') {a:Addr} {xs:List V} (h:SqT K H a xs):SqT K H' a xs:=by
 rcases h with (h | ⟨o,h⟩) | h
 · exact .inl (.inl (e _ _ h))
 · exact .inl (.inr ⟨o,e _ _ h⟩)
 · exact .inr h
theorem j7 (e:nY H H') {a:Addr} {xs:List V} (h:SqL K H a xs):SqL K H' a xs:=e.seq h
end
noncomputable def aZ (i j:Int):Prop:=i.natAbs.log2 < 64∨j.natAbs.log2 < 64∨(i.natAbs.log2 < 1000000∧j.natAbs.log2 < 1000000)
noncomputable instance (i j:Int):Decidable (aZ i j):=inferInstanceAs (Decidable (_∨_∨(_∧_)))
noncomputable def bp (j:Int):Prop:=j ≠ 0∧j.natAbs.log2 < 9000
noncomputable instance (j:Int):Decidable (bp j):=inferInstanceAs (Decidable (_∧_))
noncomputable def ai:Nat:=1000000
mutual
noncomputable def eqD:D→D→Bool
 | .non,.non=>true
 | .bl a,.bl b=>a == b
 | .bl a,.int j=>(if a then 1 else 0) == j
 | .int i,.bl b=>i == (if b then 1 else 0)
 | .int a,.int b=>a == b
 | .str a,.str b=>a == b
 | .tup xs,.tup ys=>n9 xs ys
 | .lst xs,.lst ys=>n9 xs ys
 | .non,.bl _ | .non,.int _ | .non,.str _ | .non,.tup _ | .non,.lst _=>false
 | .bl _,.non | .bl _,.str _ | .bl _,.tup _ | .bl _,.lst _=>false
 | .int _,.non | .int _,.str _ | .int _,.tup _ | .int _,.lst _=>false
 | .str _,.non | .str _,.bl _ | .str _,.int _ | .str _,.tup _ | .str _,.lst _=>false
 | .tup _,.non | .tup _,.bl _ | .tup _,.int _ | .tup _,.str _ | .tup _,.lst _=>false
 | .lst _,.non | .lst _,.bl _ | .lst _,.int _ | .lst _,.str _ | .lst _,.tup _=>false
noncomputable def n9:List D→List D→Bool
 | [],[]=>true
 | x :: xs,y :: ys=>eqD x y && n9 xs ys
 | [],_ :: _=>false
 | _ :: _,[]=>false
end
mutual
noncomputable def toP:D→PyData
 | .non=>.none
 | .bl b=>.bool b
 | .int i=>.int i
 | .str x=>.str x
 | .tup xs=>.tuple (lg xs)
 | .lst xs=>.list (lg xs)
noncomputable def lg:List D→List PyData
 | []=>[]
 | x :: xs=>toP x :: lg xs
end
mutual
noncomputable def cln:D→Bool
 | .str x=>PyData.strOk x
 | .tup xs=>w9 xs
 | .lst xs=>w9 xs
 | .non | .bl _ | .int _=>true
noncomputable def w9:List D→Bool
 | []=>true
 | x :: xs=>cln x && w9 xs
end
mutual
noncomputable def dep:D→Nat
 | .tup xs=>uZ xs + 1
 | .lst xs=>uZ xs + 1
 | .non | .bl _ | .int _ | .str _=>0
noncomputable def uZ:List D→Nat
 | []=>0
 | x :: xs=>max (dep x) (uZ xs)
end
noncomputable def yx (x:D):Prop:=cln x=true∧dep x≤64
noncomputable instance (x:D):Decidable (yx x):=inferInstanceAs (Decidable (_∧_))
end Ev
namespace Ev
open PySem PySem.Spec PyProof.Rows L2
mutual
theorem uq:∀ x y:D,PyData.eqv (toP x) (toP y)=eqD x y
 | .non,y=>by cases y <;> simp [toP,PyData.eqv,eqD]
 | .bl a,y=>by cases y <;> simp [toP,PyData.eqv,eqD]
 | .int a,y=>by cases y <;> simp [toP,PyData.eqv,eqD]
 | .str a,y=>by cases y <;> simp [toP,PyData.eqv,eqD]
 | .tup xs,.tup ys=>by simp only [toP,PyData.eqv,eqD]; exact qR xs ys
 | .lst xs,.lst ys=>by simp only [toP,PyData.eqv,eqD]; exact qR xs ys
 | .tup xs,.non=>by simp [toP,PyData.eqv,eqD]
 | .tup xs,.bl _=>by simp [toP,PyData.eqv,eqD]
 | .tup xs,.int _=>by simp [toP,PyData.eqv,eqD]
 | .tup xs,.str _=>by simp [toP,PyData.eqv,eqD]
 | .tup xs,.lst _=>by simp [toP,PyData.eqv,eqD]
 | .lst xs,.non=>by simp [toP,PyData.eqv,eqD]
 | .lst xs,.bl _=>by simp [toP,PyData.eqv,eqD]
 | .lst xs,.int _=>by simp [toP,PyData.eqv,eqD]
 | .lst xs,.str _=>by simp [toP,PyData.eqv,eqD]
 | .lst xs,.tup _=>by simp [toP,PyData.eqv,eqD]
theorem qR:∀ xs ys:List D,PyData.eqvAll (lg xs) (lg ys)=n9 xs ys
 | [],[]=>by simp [lg,PyData.eqvAll,n9]
 | [],_ :: _=>by simp [lg,PyData.eqvAll,n9]
 | _ :: _,[]=>by simp [lg,PyData.eqvAll,n9]
 | x :: xs,y :: ys=>by simp only [lg,PyData.eqvAll,n9]; rw [uq x y,qR xs ys]
end
mutual
theorem zz:∀ x:D,(toP x).canLay0=cln x
 | .non=>by simp [toP,PyData.canLay0,cln]
 | .bl _=>by simp [toP,PyData.canLay0,cln]
 | .int _=>by simp [toP,PyData.canLay0,cln]
 | .str _=>by simp [toP,PyData.canLay0,cln]
 | .tup xs=>by simp only [toP,PyData.canLay0,cln]; exact qY xs
 | .lst xs=>by simp only [toP,PyData.canLay0,cln]; exact qY xs
theorem qY:∀ xs:List D,PyData.canLayAll0 (lg xs)=w9 xs
 | []=>by simp [lg,PyData.canLayAll0,w9]
 | x :: xs=>by simp only [lg,PyData.canLayAll0,w9]; rw [zz x,qY xs]
end
mutual
theorem zq:∀ x:D,(toP x).depth=dep x
 | .non=>by simp [toP,PyData.depth,dep]
 | .bl _=>by simp [toP,PyData.depth,dep]
 | .int _=>by simp [toP,PyData.depth,dep]
 | .str _=>by simp [toP,PyData.depth,dep]
 | .tup xs=>by simp only [toP,PyData.depth,dep]; rw [qB xs]
 | .lst xs=>by simp only [toP,PyData.depth,dep]; rw [qB xs]
theorem qB:∀ xs:List D,PyData.depthAll (lg xs)=uZ xs
 | []=>by simp [lg,PyData.depthAll,uZ]
 | x :: xs=>by simp only [lg,PyData.depthAll,uZ]; rw [zq x,qB xs]
end
theorem jU {x:D} (h:yx x):SeqAt.shaped (toP x)=true:=by
 unfold SeqAt.shaped
 rw [zz,zq,h.1,Bool.true_and]
 exact decide_eq_true h.2
section
variable {X:Cx} {pins:List (Addr × Obj)} {σ:L2.St} {H G:Hp} {s:Shared}
mutual
theorem ki (I:Inv X pins σ H s) (e:nY G H):∀ {v:V} {d:D} {u:Value},Den X.K G v d→RelV v u→∃ as,Reads s.heap u (toP d) as
 | _,_,_,.non,r=>by cases r; exact ⟨_,.none⟩
 | _,_,_,.bl,r=>by cases r; exact ⟨_,.bool _⟩
 | _,_,_,.int,r=>by obtain ⟨t,rfl⟩:=r; exact ⟨_,.int _ _⟩
 | _,_,_,.str,r=>by obtain ⟨t,rfl⟩:=r; exact ⟨_,.str _ _⟩
 | _,_,_,.tup h q,r=>by
   cases r
   obtain ⟨its,rv,⟨o,h1,h2,n,h3⟩,_⟩:=I.tuple (kf e h)
   obtain ⟨as,z⟩:=nK I e q rv
   exact ⟨_,.tuple h1 h2 h3 (by simpa using z)⟩
 | _,_,_,.lst h q,r=>by
   cases r
   obtain ⟨its,rv,⟨o,n,h1,h2,_,h3⟩,_⟩:=I.list (j7 e h)
   obtain ⟨as,z⟩:=nK I e q rv
   exact ⟨_,.list h1 h2 h3 (by simpa using z)⟩
theorem nK (I:Inv X pins σ H s) (e:nY G H):∀ {vs:List V} {ds:List D} {us:List Value},xm X.K G vs ds→Vals vs us→∃ as,ReadsAll s.heap us (lg ds) as
 | _,_,_,.nil,.nil=>⟨_,.nil⟩
 | _,_,_,.cons h q,.cons r rs=>by
   obtain ⟨as,z⟩:=ki I e h r
   obtain ⟨bs,z'⟩:=nK I e q rs
   exact ⟨_,.cons z z'⟩
end
end
section
variable {K:PySem.W.Frag} {H₀ H H':Hp} {W:Hp→Hp} {acc:List Nat} {A:List (Option Addr)} {σ:L2.St} {ρ:Env}
theorem eN {H:Hp} {p:Addr} (h:H p=none) (o:HO):nY H (upd H p o):=fun b u q=>by rw [aK (aP q h)]; exact q
end
end Ev
namespace Ev
open PySem PySem.Spec PyProof.Rows L2
noncomputable def Ite (K:PySem.W.Frag) (a:Addr):L2.It:=
 ⟨fun i H=>∃ xs x,SqL K H a xs∧xs[i]?=some x,fun i H v H'=>∃ p x,H p=none∧v=.ref p∧H'=upd H p (.tup [.int (i:Nat),x])∧∀ xs,SqL K H a xs→xs[i]?=some x,fun i H=>∃ xs,SqL K H a xs∧xs.length≤i⟩
theorem AK {P:Program} {w:World} {K:PySem.W.Frag} {ts:List Expr} {q:Nat} {tp:Pos} (a e it:Addr) (hne:e ≠ it) :
   Turn P w K (.Tuple ts q tp) (Ite K a) [e,it] e (fun i h=>(∃ old,IsEnum h e it (i:Nat) old)∧h.IsListIter it a i) where
 mem:=by simp
 obj:=fun i h st b hb=>by
   obtain ⟨⟨old,h1⟩,o,h2,h3,h4⟩:=st
   rcases List.mem_cons.mp hb with rfl | hb
   · exact ⟨_,h1,fun v z=>nomatch z⟩
   · have z:b=it:=by simpa using hb
     subst z
     exact ⟨o,h2,fun v z=>by rw [h4] at z; cases z⟩
 keep:=fun i h h' st k=>by
   obtain ⟨⟨old,h1⟩,o,h2,h3,h4⟩:=st
   exact ⟨⟨old,k e (by simp) _ h1⟩,o,k it (by simp) o h2,h3,h4⟩
 item:=by
   intro X hP hw hK hc i pins s σ H E I hf st hg
   subst hP hw hK
   obtain ⟨xs,x,hq,hx⟩:=hg
   obtain ⟨its,rv,p,hz⟩:=I.list hq
   obtain ⟨u,hu,ru⟩:=rv.get hx
   obtain ⟨⟨old,h1⟩,h2⟩:=st
   have fe:=hf e (by simp)
   have fi:=hf it (by simp)
   refine wpAny_pyNext_enum_item h1 h2 p.isList (x:=u) (by simpa using hu) hne fun h' g1 g2 g3 g4 g5=>⟨_,rfl,?_⟩
   refine wpAny_letOwnedTupleGo_enum (s:={ s with heap:=h',toks:=s.toks + 1 }) g1 fun h2' k1 k2=>?_
   have hn:H s.heap.objs.size=none:=I.hok.fresh (Nat.le_refl _)
   have le1:e < s.heap.objs.size:=Heap.lt_size h1
   have le2:it < s.heap.objs.size:=by obtain ⟨o,z,_⟩:=h2; exact Heap.lt_size z
   have kp:∀ b o,b ≠ e→b ≠ it→s.heap.get? b=some o→h2'.get? b=some o:=fun b o b1 b2 z=>(k2.2 b b1).trans (g5 b o b1 b2 z)
   have nt:h2'.get? s.heap.objs.size=some { cls:=.type "tuple",data:=.seq #[.int (i:Nat) s.toks,u] }:=(k2.2 _ (Nat.ne_of_gt le1)).trans g3
   have ne1:∀ b v,H b=some v→b ≠ e:=fun b v z q=>by rw [q,fe.1] at z; cases z
   have ne2:∀ b v,H b=some v→b ≠ it:=fun b v z q=>by rw [q,fi.1] at z; cases z
   have hok0:HOk X.prog X.w H h2':=fun b v z=>(I.hok b v z).mx (fun c v' hc' q=>kp c v' (by
       rcases hc' with hc' | hc'
       · rw [hc']; exact ne1 b v z
       · exact ne1 c _ hc') (by
       rcases hc' with hc' | hc'
       · rw [hc']; exact ne2 b v z
       · exact ne2 c _ hc') q) (fun _ q=>q) fun _ _ q=>q
   have hok1:HOk X.prog X.w (upd H s.heap.objs.size (.tup [.int (i:Nat),x])) h2':=fun b v z=>by
     by_cases hb:b=s.heap.objs.size
     · subst hb
       rw [dM] at z; cases z
       exact ⟨(by show 2≤sizeLine; decide),[.int (i:Nat) s.toks,u],.cons ⟨_,rfl⟩ (.cons ru .nil),_,nt,rfl,_,rfl⟩
     · rw [aK hb] at z
       exact (hok0 b v z).mx (fun c v' _ q=>q) (fun c q=>by rw [aK (aP q hn)]; exact q) fun c ys q=>by rw [aK (aP q hn)]; exact q
   have I1:Inv X pins σ (upd H s.heap.objs.size (.tup [.int (i:Nat),x])) { s with heap:=h2',toks:=s.toks + 1 }:=by
     refine I.step (g':=s.gens) (d':=s.drawn) (ch:=[e,it]) (fun b hb=>?_) (fun b o _ _ hc' z _=>kp b o (fun q=>hc' (by simp [q])) (fun q=>hc' (by simp [q])) z)
       (fun b o _ _ hc' z _=>⟨o.slots,kp b o (fun q=>hc' (by simp [q])) (fun q=>hc' (by simp [q])) z⟩)
       (fun b o hc' z n=>by rw [aK (Nat.ne_of_lt (Heap.lt_size z))]; exact n) (fun b o hc' z=>⟨o,kp b o (fun q=>hc' (by simp [q])) (fun q=>hc' (by simp [q])) z⟩)
       (fun b ys z=>by rw [aK (aP z hn)]; exact z) (fun b o u z=>by rw [aK (aP z hn)]; exact z) (fun b ps z=>⟨#[],by rw [aK (aP z hn),z]; simp⟩) (fun m hm=>?_) hok1 I.bare
     · rcases List.mem_cons.mp hb with rfl | hb
       · exact ⟨fe.2.2.2.1,fe.2.1,fe.2.2.2.2.1,fe.2.2.2.2.2⟩
       · have z:b=it:=by simpa using hb
         subst z
         exact ⟨fi.2.2.2.1,fi.2.1,fi.2.2.2.2.1,fi.2.2.2.2.2⟩
     · obtain ⟨o,es,ep,ho,r⟩:=hm
       exact ⟨o,es,ep,kp _ o (Ne.symm fe.2.1) (Ne.symm fi.2.1) ho,r⟩
   refine ⟨.ref s.heap.objs.size,_,I1,rfl,⟨s.heap.objs.size,x,hn,rfl,rfl,fun ys hy=>by rw [I.mB hy hq]; exact hx⟩,⟨⟨_,k1⟩,?_⟩,fun b hb=>?_⟩
   · obtain ⟨o,z1,z2,z3⟩:=g2
     exact ⟨o,(k2.2 it (Ne.symm hne)).trans z1,z2,z3⟩
   · rcases List.mem_cons.mp hb with rfl | hb
     · rw [aK (Nat.ne_of_lt le1)]; exact fe.1
     · have z:b=it:=by simpa using hb
       subst z
       rw [aK (Nat.ne_of_lt le2)]; exact fi.1
 done:=by
   intro X hP hw hK hc i pins s σ H E I hf st hg
   subst hP hw hK
   obtain ⟨xs,hq,hx⟩:=hg
   obtain ⟨its,rv,p,hz⟩:=I.list hq
   obtain ⟨⟨old,h1⟩,h2⟩:=st
   obtain ⟨f0,f1,f2,f3,f4,f5⟩:=hf it (by simp)
   have hl:=rv.length
   exact wpAny_pyNext_enum_end (I.ok.hd hc) h1 h2 p.isList (by simp; omega) fun h' eb=>⟨rfl,I.turned (t':=s.toks) (fun b o hb z=>eb b o hb z) f0 f1 f3 f4 f5⟩
 self:=fun _ _ _ _ _ st h=>by
   obtain ⟨⟨old,h1⟩,_⟩:=st
   exact wpAny_pyIter_enum h1 h
section
variable {X:Cx}
noncomputable def BH (K:PySem.W.Frag) (ta:TA):TI:=fun σ H R=>ta σ H fun vs H1=>∃ a,vs=[.ref a]∧(∃ xs,SqL K H1 a xs)∧R (Ite K a) H1
theorem zZ:bootBuiltins "enumerate" = some (.type "enumerate"):=by decide +kernel
theorem ub {ts:List Expr} {q:Nat} {tp:Pos} {a:Expr} {ta:TA} {p pos:Pos} (hg:Gl X "enumerate") (hm:X.mg "enumerate" = none) (ha:PA X [a] ta) (hs:starEach [a] X.env=[(false,eval a X.env)]) :
   PI X (.Tuple ts q tp) (.Call (.Name "enumerate" p) [a] [] pos) (BH X.K ta):=by
 intro pins s σ H R I h
 refine Call_ (jQ I hg hm zZ (PyProof.Rows.callWith_type1 (thn (ha pos pins s σ H _ I h) fun us s1 ⟨vs,H1,I1,r1,q1⟩=>?_) hs rfl))
 obtain ⟨l,e,⟨xs,hq⟩,q⟩:=q1
 subst e
 obtain ⟨u,rfl,ru⟩:=vals1 r1
 cases ru
 obtain ⟨its,rv,pl,hz⟩:=I1.list hq
 refine call_enumerate_list pl.isList fun h' g1 g2 g3 g4=>?_
 refine wpAny_pyIter_enum (s:={ s1 with heap:=h' }) g1 ?_
 have I2:Inv X pins σ H1 { s1 with heap:=h' }:=I1.kept (t':=s1.toks) g4
 have n1:H1 (s1.heap.objs.size + 1)=none:=I1.hok.fresh (by omega)
 have n2:H1 s1.heap.objs.size=none:=I1.hok.fresh (Nat.le_refl _)
 refine ⟨s1.heap.objs.size + 1,[s1.heap.objs.size + 1,s1.heap.objs.size],_,_,H1,rfl,I2,AK l (s1.heap.objs.size + 1) s1.heap.objs.size (Nat.succ_ne_self _),⟨⟨_,g1⟩,g2⟩,fun b hb=>?_,q⟩
 rcases List.mem_cons.mp hb with rfl | hb
 · exact I1.xD (by omega) n1
 · have z:b=s1.heap.objs.size:=by simpa using hb
   subst z
   exact I1.xD (Nat.le_refl _) n2
end
end Ev
namespace Ev
open PySem PySem.Spec PyProof.Rows L2
noncomputable def Itz (K:PySem.W.Frag) (a b:Addr):L2.It:=
 ⟨fun i H=>∃ xs ys x y,SqL K H a xs∧SqL K H b ys∧xs[i]?=some x∧ys[i]?=some y,
  fun i H v H'=>∃ p x y,H p=none∧v=.ref p∧H'=upd H p (.tup [x,y])∧(∀ xs,SqL K H a xs→xs[i]?=some x)∧∀ ys,SqL K H b ys→ys[i]?=some y,
  fun i H=>∃ xs ys,SqL K H a xs∧SqL K H b ys∧(xs.length≤i∨ys.length≤i)⟩
noncomputable def zSt (a b z TI TO i1 i2:Addr) (i:Nat) (h:Heap):Prop:=
 IsZip h z TI TO .none∧IsPair h TI (.ref i1) (.ref i2)∧(∃ u v,IsPair h TO u v)∧h.IsListIter i1 a i∧h.IsListIter i2 b i
theorem sy {h:Heap} {a b z TI TO i1 i2:Addr} {i:Nat} {xs ys:Array Value} (n:TI ≠ TO) (m:i1 ≠ i2) (s:zSt a b z TI TO i1 i2 i h) (l1:h.IsList a xs) (l2:h.IsList b ys):ZipApart z TI TO i1 i2 a b:=by
 obtain ⟨h1,h2,⟨u,v,h3⟩,⟨o4,h4,c4,d4⟩,⟨o5,h5,c5,d5⟩⟩:=s
 obtain ⟨o6,h6,c6,n6,d6⟩:=l1
 obtain ⟨o7,h7,c7,n7,d7⟩:=l2
 have kk:∀ {x y:Addr} {o p:Obj},h.get? x=some o→h.get? y=some p→o.cls ≠ p.cls→x ≠ y:=fun e1 e2 c q=>by subst q; rw [e1] at e2; cases e2; exact c rfl
 have cz:∀ {s t:String},s ≠ t→Value.type s ≠ Value.type t:=fun n q=>n (by cases q; rfl)
 refine ⟨kk h2 h1 (cz (by decide)),kk h3 h1 (cz (by decide)),kk h4 h1 ?_,kk h5 h1 ?_,n,kk h2 h4 ?_,kk h2 h5 ?_,kk h3 h4 ?_,kk h3 h5 ?_,m,kk h6 h1 ?_,kk h6 h3 ?_,kk h6 h4 ?_,kk h6 h5 ?_,kk h7 h1 ?_,kk h7 h3 ?_,kk h7 h4 ?_,kk h7 h5 ?_⟩
 all_goals first | (rw [c4]; exact cz (by decide)) | (rw [c5]; exact cz (by decide)) | (rw [c6]; exact cz (by decide)) | (rw [c7]; exact cz (by decide)) | (rw [c6,c4]; exact cz (by decide)) | (rw [c6,c5]; exact cz (by decide)) | (rw [c7,c4]; exact cz (by decide)) | (rw [c7,c5]; exact cz (by decide))
theorem CQ {P:Program} {w:World} {K:PySem.W.Frag} {ts:List Expr} {q:Nat} {tp:Pos} (a b z TI TO i1 i2:Addr) (nT:TI ≠ TO) (nI:i1 ≠ i2) :
   Turn P w K (.Tuple ts q tp) (Itz K a b) [z,TI,TO,i1,i2] z (zSt a b z TI TO i1 i2) where
 mem:=by simp
 obj:=fun i h st c hb=>by
   obtain ⟨h1,h2,⟨u,v,h3⟩,⟨o4,h4,c4,d4⟩,⟨o5,h5,c5,d5⟩⟩:=st
   simp only [List.mem_cons,List.not_mem_nil,or_false] at hb
   rcases hb with rfl | rfl | rfl | rfl | rfl
   · exact ⟨_,h1,fun v z=>nomatch z⟩
   · exact ⟨_,h2,fun v z=>nomatch z⟩
   · exact ⟨_,h3,fun v z=>nomatch z⟩
   · exact ⟨_,h4,fun v z=>by rw [d4] at z; cases z⟩
   · exact ⟨_,h5,fun v z=>by rw [d5] at z; cases z⟩
 keep:=fun i h h' st k=>by
   obtain ⟨h1,h2,⟨u,v,h3⟩,⟨o4,h4,c4,d4⟩,⟨o5,h5,c5,d5⟩⟩:=st
   exact ⟨k z (by simp) _ h1,k TI (by simp) _ h2,⟨u,v,k TO (by simp) _ h3⟩,⟨o4,k i1 (by simp) _ h4,c4,d4⟩,⟨o5,k i2 (by simp) _ h5,c5,d5⟩⟩
 item:=by
   intro X hP hw hK hc i pins s σ H E I hf st hg
   subst hP hw hK
   obtain ⟨xs,ys,x,y,hq1,hq2,hx,hy⟩:=hg
   obtain ⟨its1,rv1,p1,hz1⟩:=I.list hq1
   obtain ⟨its2,rv2,p2,hz2⟩:=I.list hq2
   obtain ⟨u1,hu1,ru1⟩:=rv1.get hx
   obtain ⟨u2,hu2,ru2⟩:=rv2.get hy
   have D:=sy nT nI st p1.isList p2.isList
   obtain ⟨h1,h2,⟨u,v,h3⟩,h4,h5⟩:=st
   refine wpAny_pyNext_zip_item D h1 h2 h3 h4 h5 p1.isList p2.isList (x:=u1) (y:=u2) (by simpa using hu1) (by simpa using hu2) fun h' g1 g2 g3 g4 g5 g6 g7=>⟨_,rfl,?_⟩
   refine wpAny_letOwnedTupleGo_zip (s:={ s with heap:=h' }) g1 fun h2' k1 k2=>?_
   have hn:H s.heap.objs.size=none:=I.hok.fresh (Nat.le_refl _)
   have le1:z < s.heap.objs.size:=Heap.lt_size h1
   have lt2:TI < s.heap.objs.size:=Heap.lt_size h2
   have lt3:TO < s.heap.objs.size:=Heap.lt_size h3
   have lt4:i1 < s.heap.objs.size:=by obtain ⟨o,z,_⟩:=h4; exact Heap.lt_size z
   have lt5:i2 < s.heap.objs.size:=by obtain ⟨o,z,_⟩:=h5; exact Heap.lt_size z
   have kp:∀ c o,c ≠ z→c ≠ TO→c ≠ i1→c ≠ i2→s.heap.get? c=some o→h2'.get? c=some o:=fun c o b1 b2 b3 b4 e=>(k2.2 c b1).trans (g7 c o b1 b2 b3 b4 e)
   have nt:IsPair h2' s.heap.objs.size u1 u2:=(k2.2 _ (Nat.ne_of_gt le1)).trans g5
   have ne:∀ c,c ∈ [z,TI,TO,i1,i2]→∀ d v,H d=some v→d ≠ c:=fun c hc d v e q=>by
     have:=(hf c hc).1
     rw [q,this] at e; cases e
   have hok0:HOk X.prog X.w H h2':=fun d v e=>(I.hok d v e).mx (fun c v' hc' q=>kp c v'
       (by rcases hc' with hc' | hc'
           · rw [hc']; exact ne z (by simp) d v e
           · exact ne z (by simp) c _ hc')
       (by rcases hc' with hc' | hc'
           · rw [hc']; exact ne TO (by simp) d v e
           · exact ne TO (by simp) c _ hc')
       (by rcases hc' with hc' | hc'
           · rw [hc']; exact ne i1 (by simp) d v e
           · exact ne i1 (by simp) c _ hc')
       (by rcases hc' with hc' | hc'
           · rw [hc']; exact ne i2 (by simp) d v e
           · exact ne i2 (by simp) c _ hc') q) (fun _ q=>q) fun _ _ q=>q
   have hok1:HOk X.prog X.w (upd H s.heap.objs.size (.tup [x,y])) h2':=fun d v e=>by
     by_cases hb:d=s.heap.objs.size
     · subst hb
       rw [dM] at e; cases e
       exact ⟨(by show 2≤sizeLine; decide),[u1,u2],.cons ru1 (.cons ru2 .nil),_,nt,rfl,_,rfl⟩
     · rw [aK hb] at e
       exact (hok0 d v e).mx (fun c v' _ q=>q) (fun c q=>by rw [aK (aP q hn)]; exact q) fun c ys q=>by rw [aK (aP q hn)]; exact q
   have I1:Inv X pins σ (upd H s.heap.objs.size (.tup [x,y])) { s with heap:=h2' }:=by
     refine I.step (t':=s.toks) (g':=s.gens) (d':=s.drawn) (ch:=[z,TO,i1,i2]) (fun c hb=>?_) (fun c o _ _ hc' e _=>kp c o (fun q=>hc' (by simp [q])) (fun q=>hc' (by simp [q])) (fun q=>hc' (by simp [q])) (fun q=>hc' (by simp [q])) e)
       (fun c o _ _ hc' e _=>⟨o.slots,kp c o (fun q=>hc' (by simp [q])) (fun q=>hc' (by simp [q])) (fun q=>hc' (by simp [q])) (fun q=>hc' (by simp [q])) e⟩)
       (fun c o hc' e n=>by rw [aK (Nat.ne_of_lt (Heap.lt_size e))]; exact n) (fun c o hc' e=>⟨o,kp c o (fun q=>hc' (by simp [q])) (fun q=>hc' (by simp [q])) (fun q=>hc' (by simp [q])) (fun q=>hc' (by simp [q])) e⟩)
       (fun c ys e=>by rw [aK (aP e hn)]; exact e) (fun c o u e=>by rw [aK (aP e hn)]; exact e) (fun c ps e=>⟨#[],by rw [aK (aP e hn),e]; simp⟩) (fun m hm=>?_) hok1 I.bare
     · have hb':c ∈ [z,TI,TO,i1,i2]:=by
         simp only [List.mem_cons,List.not_mem_nil,or_false] at hb ⊢
         rcases hb with h | h | h | h <;> simp [h]
       have fe:=hf c hb'
       exact ⟨fe.2.2.2.1,fe.2.1,fe.2.2.2.2.1,fe.2.2.2.2.2⟩
     · obtain ⟨o,es,ep,ho,r⟩:=hm
       exact ⟨o,es,ep,kp _ o (Ne.symm (hf z (by simp)).2.1) (Ne.symm (hf TO (by simp)).2.1) (Ne.symm (hf i1 (by simp)).2.1) (Ne.symm (hf i2 (by simp)).2.1) ho,r⟩
   refine ⟨.ref s.heap.objs.size,_,I1,rfl,⟨s.heap.objs.size,x,y,hn,rfl,rfl,fun zs hy'=>by rw [I.mB hy' hq1]; exact hx,fun zs hy'=>by rw [I.mB hy' hq2]; exact hy⟩,⟨k1,?_,⟨u1,u2,(k2.2 TO D.TOz).trans g2⟩,?_,?_⟩,fun c hb=>?_⟩
   · exact kp TI _ D.TIz D.TITO D.TIi1 D.TIi2 h2
   · obtain ⟨o,z1,z2,z3⟩:=g3
     exact ⟨o,(k2.2 i1 D.i1z).trans z1,z2,z3⟩
   · obtain ⟨o,z1,z2,z3⟩:=g4
     exact ⟨o,(k2.2 i2 D.i2z).trans z1,z2,z3⟩
   · have fc:=(hf c hb).1
     have lt:c < s.heap.objs.size:=by
       simp only [List.mem_cons,List.not_mem_nil,or_false] at hb
       rcases hb with rfl | rfl | rfl | rfl | rfl <;> assumption
     rw [aK (Nat.ne_of_lt lt)]
     exact fc
 done:=by
   intro X hP hw hK hc i pins s σ H E I hf st hg
   subst hP hw hK
   obtain ⟨xs,ys,hq1,hq2,hx⟩:=hg
   obtain ⟨its1,rv1,p1,hz1⟩:=I.list hq1
   obtain ⟨its2,rv2,p2,hz2⟩:=I.list hq2
   have D:=sy nT nI st p1.isList p2.isList
   obtain ⟨h1,h2,⟨u,v,h3⟩,h4,h5⟩:=st
   have hl1:=rv1.length
   have hl2:=rv2.length
   refine wpAny_pyNext_zip_end (I.ok.hd hc) D h1 h2 h3 h4 h5 p1.isList p2.isList (by
     rcases hx with hx | hx
     · left; simp; omega
     · right; simp; omega) fun h' eb=>⟨rfl,?_⟩
   have ne:∀ c,c ∈ [z,TI,TO,i1,i2]→∀ d v,H d=some v→d ≠ c:=fun c hc d v e q=>by
     have:=(hf c hc).1
     rw [q,this] at e; cases e
   have hok0:HOk X.prog X.w H h':=fun d v e=>(I.hok d v e).mx (fun c v' hc' q=>eb c v'
       (by rcases hc' with hc' | hc'
           · rw [hc']; exact ne z (by simp) d v e
           · exact ne z (by simp) c _ hc')
       (by rcases hc' with hc' | hc'
           · rw [hc']; exact ne TO (by simp) d v e
           · exact ne TO (by simp) c _ hc')
       (by rcases hc' with hc' | hc'
           · rw [hc']; exact ne i1 (by simp) d v e
           · exact ne i1 (by simp) c _ hc')
       (by rcases hc' with hc' | hc'
           · rw [hc']; exact ne i2 (by simp) d v e
           · exact ne i2 (by simp) c _ hc') q) (fun _ q=>q) fun _ _ q=>q
   refine I.step (t':=s.toks) (g':=s.gens) (d':=s.drawn) (ch:=[z,TO,i1,i2]) (fun c hb=>?_) (fun c o _ _ hc' e _=>eb c o (fun q=>hc' (by simp [q])) (fun q=>hc' (by simp [q])) (fun q=>hc' (by simp [q])) (fun q=>hc' (by simp [q])) e)
       (fun c o _ _ hc' e _=>⟨o.slots,eb c o (fun q=>hc' (by simp [q])) (fun q=>hc' (by simp [q])) (fun q=>hc' (by simp [q])) (fun q=>hc' (by simp [q])) e⟩)
       (fun c o hc' e n=>n) (fun c o hc' e=>⟨o,eb c o (fun q=>hc' (by simp [q])) (fun q=>hc' (by simp [q])) (fun q=>hc' (by simp [q])) (fun q=>hc' (by simp [q])) e⟩)
       (fun c ys e=>e) (fun c o u e=>e) (fun c ps e=>⟨#[],by rw [e]; simp⟩) (fun m hm=>?_) hok0 I.bare
   · have hb':c ∈ [z,TI,TO,i1,i2]:=by
       simp only [List.mem_cons,List.not_mem_nil,or_false] at hb ⊢
       rcases hb with h | h | h | h <;> simp [h]
     have fe:=hf c hb'
     exact ⟨fe.2.2.2.1,fe.2.1,fe.2.2.2.2.1,fe.2.2.2.2.2⟩
   · obtain ⟨o,es,ep,ho,r⟩:=hm
     exact ⟨o,es,ep,eb _ o (Ne.symm (hf z (by simp)).2.1) (Ne.symm (hf TO (by simp)).2.1) (Ne.symm (hf i1 (by simp)).2.1) (Ne.symm (hf i2 (by simp)).2.1) ho,r⟩
 self:=fun _ _ _ _ _ st h=>wpAny_pyIter_zip st.1 h
section
variable {X:Cx}
noncomputable def LC (K:PySem.W.Frag) (ta:TA):TI:=fun σ H R=>ta σ H fun vs H1=>∃ a b,vs=[.ref a,.ref b]∧(∃ xs,SqL K H1 a xs)∧(∃ ys,SqL K H1 b ys)∧R (Itz K a b) H1
theorem JR {ts:List Expr} {q:Nat} {tp:Pos} {a b:Expr} {ta:TA} {p pos:Pos} (hg:Gl X "zip") (hm:X.mg "zip" = none) (ha:PA X [a,b] ta) (hs:starEach [a,b] X.env=(false,eval a X.env) :: starEach [b] X.env) (hs2:starEach [b] X.env=[(false,eval b X.env)]) :
   PI X (.Tuple ts q tp) (.Call (.Name "zip" p) [a,b] [] pos) (LC X.K ta):=by
 intro pins s σ H R I h
 refine Call_ (jQ I hg hm boot_zip (PyProof.Rows.callWith_type1 (thn (ha pos pins s σ H _ I h) fun us s1 ⟨vs,H1,I1,r1,q1⟩=>?_) hs (by rw [hs2]; rfl)))
 obtain ⟨l,l',e,⟨xs,hq1⟩,⟨ys,hq2⟩,q⟩:=q1
 subst e
 obtain ⟨u,u',rfl,ru,ru'⟩:=vals2 r1
 cases ru
 cases ru'
 obtain ⟨its1,rv1,pl1,hz1⟩:=I1.list hq1
 obtain ⟨its2,rv2,pl2,hz2⟩:=I1.list hq2
 refine call_zip_2 pl1.isList pl2.isList fun h' g1 g2 g3 g4 g5 g6 g7=>?_
 refine wpAny_pyIter_zip (s:={ s1 with heap:=h' }) g1 ?_
 have I2:Inv X pins σ H1 { s1 with heap:=h' }:=I1.kept (t':=s1.toks) g7
 have nn:∀ j,H1 (s1.heap.objs.size + j)=none:=fun j=>I1.hok.fresh (by omega)
 refine ⟨s1.heap.objs.size + 4,[s1.heap.objs.size + 4,s1.heap.objs.size + 2,s1.heap.objs.size + 3,s1.heap.objs.size,s1.heap.objs.size + 1],_,_,H1,rfl,I2,CQ l l' (s1.heap.objs.size + 4) (s1.heap.objs.size + 2) (s1.heap.objs.size + 3) s1.heap.objs.size (s1.heap.objs.size + 1) (by simp) (Ne.symm (Nat.succ_ne_self _)),⟨g1,g2,⟨_,_,g3⟩,g4,g5⟩,fun c hb=>?_,q⟩
 have hb':∃ j,c=s1.heap.objs.size + j:=by
   simp only [List.mem_cons,List.not_mem_nil,or_false] at hb
   rcases hb with h | h | h | h | h
   · exact ⟨_,h⟩
   · exact ⟨_,h⟩
   · exact ⟨_,h⟩
   · exact ⟨0,h⟩
   · exact ⟨_,h⟩
 obtain ⟨j,rfl⟩:=hb'
 exact I1.xD (Nat.le_add_right _ _) (nn j)
end
end Ev
namespace Ev
open PySem PySem.Spec PyProof.Rows L2
theorem BK:∀ (names:List (Str × NameKind)) (n:Nat) (acc:List (Str × Addr)) (x:Str) (c:Addr),(cellsFrom n names acc).lookup x=some c→n≤c∨acc.lookup x=some c
 | [],_,_,_,_,h=>.inr h
 | (y,k) :: r,n,acc,x,c,h=>by
   unfold cellsFrom at h
   split at h
   · rcases BK r (n + 1) _ x c h with q | q
     · exact .inl (by omega)
     · rw [List.lookup_cons] at q
       split at q
       · cases q; exact .inl (Nat.le_refl _)
       · exact .inr q
   · exact BK r n acc x c h
theorem qI:∀ (names:List (Str × NameKind)) (n:Nat) (acc:List (Str × Addr)) (x:Str),(x,NameKind.cell) ∉ names→(cellsFrom n names acc).lookup x=acc.lookup x
 | [],_,_,_,_=>rfl
 | (y,k) :: r,n,acc,x,h=>by
   have h1:(x,NameKind.cell) ∉ r:=fun z=>h (List.mem_cons_of_mem _ z)
   unfold cellsFrom
   split
   · rename_i hk
     rw [qI r _ _ x h1,List.lookup_cons]
     have:(x == y)=false:=by
       rw [beq_eq_false_iff_ne]
       rintro rfl
       exact h (by rw [eq_of_beq hk]; exact List.mem_cons_self)
     rw [this]
   · exact qI r n acc x h1
theorem uh:∀ (names:List (Str × NameKind)) (n:Nat) (acc:List (Str × Addr)) (x:Str),(x,NameKind.cell) ∈ names→∃ c,(cellsFrom n names acc).lookup x=some c∧n≤c
 | (y,k) :: r,n,acc,x,h=>by
   unfold cellsFrom
   by_cases hr:(x,NameKind.cell) ∈ r
   · split
     · obtain ⟨c,e,l⟩:=uh r (n + 1) ((y,n) :: acc) x hr
       exact ⟨c,e,by omega⟩
     · exact uh r n acc x hr
   · rcases List.mem_cons.mp h with q | q
     · cases q
       rw [if_pos (by rfl),qI r _ _ _ hr]
       exact ⟨n,by simp [List.lookup_cons],Nat.le_refl _⟩
     · exact absurd q hr
theorem ym:∀ (names:List (Str × NameKind)) (n:Nat) (acc:List (Str × Addr)),(∀ x c,acc.lookup x=some c→c < n)→(∀ x y c,acc.lookup x=some c→acc.lookup y=some c→x=y) →
   ∀ x y c,(cellsFrom n names acc).lookup x=some c→(cellsFrom n names acc).lookup y=some c→x=y
 | [],_,_,_,h=>h
 | (z,k) :: r,n,acc,hl,h=>by
   unfold cellsFrom
   split
   · refine ym r (n + 1) _ (fun x c e=>?_) (fun x y c e1 e2=>?_)
     · rw [List.lookup_cons] at e
       split at e
       · cases e; exact Nat.lt_succ_self _
       · exact Nat.lt_succ_of_lt (hl x c e)
     · rw [List.lookup_cons] at e1 e2
       split at e1
       · rename_i q1
         cases e1
         split at e2
         · rename_i q2
           exact (eq_of_beq q1).trans (eq_of_beq q2).symm
         · exact absurd (hl y _ e2) (Nat.lt_irrefl _)
       · split at e2
         · cases e2
           exact absurd (hl x _ e1) (Nat.lt_irrefl _)
         · exact h x y c e1 e2
   · exact ym r n acc hl h
theorem uK:∀ (names:List (Str × NameKind)) (h:Heap) (acc:List (Str × Addr)),(∀ x c,acc.lookup x=some c→∃ v,h.IsCell c v)→∀ x c,(cellsFrom h.objs.size names acc).lookup x=some c→∃ v,(pushCells h names).IsCell c v
 | [],_,_,ha,x,c,e=>ha x c e
 | (z,k) :: r,h,acc,ha,x,c,e=>by
   unfold cellsFrom at e
   unfold pushCells
   split at e
   · rename_i hk
     rw [if_pos hk]
     refine uK r _ ((z,h.objs.size) :: acc) (fun y d q=>?_) x c (by rw [Heap.size_push]; exact e)
     rw [List.lookup_cons] at q
     split at q
     · cases q
       exact ⟨none,_,Heap.get?_push_size _ rfl,rfl⟩
     · obtain ⟨v,o,ho,hd⟩:=ha y d q
       exact ⟨v,o,Heap.get?_push_of_some _ ho,hd⟩
   · rename_i hk
     rw [if_neg hk]
     exact uK r h acc ha x c e
noncomputable def gZ (env:PySem.Env):List (Str × NameKind)→List (Str × Addr)→List (Str × Addr)
 | [],acc=>acc
 | (n,k) :: r,acc=>if k == .free then (match env.cells.lookup n with | some c=>gZ env r ((n,c) :: acc) | none=>gZ env r acc) else gZ env r acc
theorem qi (env:PySem.Env):∀ (names:List (Str × NameKind)) (acc:List (Str × Addr)),(∀ x ∈ names,x.2=.free→∃ c,env.cells.lookup x.1=some c) →
   (forIn (m:=Sem) names acc fun x cs=>do
     let (name,kind):=x
     if kind == .free then do
       let c ← cellOf env name
       pure (ForInStep.yield ((name,c) :: cs))
     else pure (ForInStep.yield cs))=pure (gZ env names acc)
 | [],acc,_=>rfl
 | (n,k) :: r,acc,h=>by
   rw [List.forIn_cons]
   unfold gZ
   by_cases hk:(k == .free)=true
   · obtain ⟨c,hc⟩:=h (n,k) List.mem_cons_self (eq_of_beq hk)
     simp only [hk,if_true,cellOf,hc,pure_bind]
     exact qi env r _ fun x hx=>h x (List.mem_cons_of_mem _ hx)
   · simp only [hk,Bool.false_eq_true,if_false,pure_bind]
     exact qi env r _ fun x hx=>h x (List.mem_cons_of_mem _ hx)
theorem za {env:PySem.Env} {scope:Scope} (h:∀ x ∈ scope.names,x.2=.free→∃ c,env.cells.lookup x.1=some c):closureFor scope env=pure (gZ env scope.names []):=by
 unfold closureFor
 have:=qi env scope.names [] h
 simp only [bind_pure]
 exact this
theorem jJ (env:PySem.Env):∀ (names:List (Str × NameKind)) (acc:List (Str × Addr)) (x:Str) (c:Addr),(∀ y d,acc.lookup y=some d→env.cells.lookup y=some d)→(gZ env names acc).lookup x=some c→env.cells.lookup x=some c
 | [],_,x,c,ha,h=>ha x c h
 | (n,k) :: r,acc,x,c,ha,h=>by
   unfold gZ at h
   split at h
   · split at h
     · rename_i c' hc
       refine jJ env r _ x c (fun y d q=>?_) h
       rw [List.lookup_cons] at q
       split at q
       · rename_i qq
         cases q
         rw [eq_of_beq qq]; exact hc
       · exact ha y d q
     · exact jJ env r acc x c ha h
   · exact jJ env r acc x c ha h
theorem iq (env:PySem.Env):∀ (names:List (Str × NameKind)) (acc:List (Str × Addr)) (x:Str) (c:Addr),(∀ y d,acc.lookup y=some d→env.cells.lookup y=some d)→env.cells.lookup x=some c→((x,NameKind.free) ∈ names∨acc.lookup x=some c)→(gZ env names acc).lookup x=some c
 | [],_,x,c,_,_,h=>h.elim (fun z=>absurd z (by simp)) id
 | (n,k) :: r,acc,x,c,ha,hc,h=>by
   unfold gZ
   split
   · split
     · rename_i c' hc'
       refine iq env r _ x c (fun y d q=>?_) hc ?_
       · rw [List.lookup_cons] at q
         split at q
         · rename_i qq
           cases q
           rw [eq_of_beq qq]; exact hc'
         · exact ha y d q
       · by_cases q:x=n
         · subst q
           rw [hc] at hc'; cases hc'
           exact .inr (by simp [List.lookup_cons])
         · rcases h with h | h
           · rcases List.mem_cons.mp h with z | z
             · cases z; exact absurd rfl q
             · exact .inl z
           · refine .inr ?_
             rw [List.lookup_cons,beq_eq_false_iff_ne.mpr q]
             exact h
     · rename_i hc'
       refine iq env r acc x c ha hc ?_
       rcases h with h | h
       · rcases List.mem_cons.mp h with z | z
         · cases z; rw [hc] at hc'; cases hc'
         · exact .inl z
       · exact .inr h
   · rename_i hk
     refine iq env r acc x c ha hc ?_
     rcases h with h | h
     · rcases List.mem_cons.mp h with z | z
       · cases z; exact absurd rfl hk
       · exact .inl z
     · exact .inr h
theorem td {M:Model} {A:Around} {E:Value→Shared→Prop} {s:Shared} {scope:Scope} {cl:List (Str × Addr)} {env:PySem.Env} {Q:PySem.Env→Shared→Prop}
   (h:Q (newEnv scope s.heap.objs.size env.globals (cellsFrom (s.heap.objs.size + 1) scope.names cl) env.qual none .none (some env) builtinsNs) { s with heap:=pushCells (s.heap.push { cls:=.type "dict",data:=.dict #[] }) scope.names }) :
   wpAny M A (newFunctionEnv scope env.globals cl [] env.qual none .none (some env)) Q E s:=by
 simp only [newFunctionEnv,Option.isSome_some,if_true]
 refine wpAny_bind (wpAny_alloc ?_)
 refine wpAny_bind (wpAny_layCells _ (fun name kind cells=>by cases hkc:kind == NameKind.cell <;> simp [hkc]) _ _ _ _ ?_)
 rw [show ({ s with heap:=s.heap.push { cls:=.type "dict",data:=.dict #[] } }:Shared).heap.objs.size=s.heap.objs.size + 1 from Heap.size_push ..]
 exact wpAny_bind (wpAny_pure (wpAny_pure h))
end Ev
namespace Ev
open PySem PySem.Spec PyProof.Rows L2
noncomputable def bc (X:Cx) (s:Shared) (H:Hp) (scope:Scope) (N:List Str) (fp:List Addr):Cx:=
 { prog:=X.prog,w:=X.w,K:=X.K,mg:=X.mg,base:=X.base,A:=X.A,N:=N,s₀:=s,H₀:=H
   env:=compEnvC scope (cellsFrom (s.heap.objs.size + 1 + 1) scope.names (gZ X.env scope.names [])) (s.heap.objs.size + 1) X.env
   outer:=X.stack,stack:=X.stack,ex:=fp,fn:=fun x=>decide ((x,NameKind.cell) ∈ scope.names),calm:=X.calm,pn:=[],xe:=fun _ _=>False }
noncomputable def oq (σ:L2.St) (caps:List (Option Nat)):L2.St:=caps.map fun o=>o.bind fun i=>(σ[i]?).join
structure mY (X:Cx) (scope:Scope) (N:List Str) (caps:List (Option Nat)):Prop where
 kind:scope.kind=.function
 loc:∀ x ∈ scope.names,x.2=.local→scope.names.lookup x.1=some .local
 fre:∀ x ∈ scope.names,x.2=.free→X.env.kindOf x.1=some .cell
 one:∀ x,(x,NameKind.free) ∈ scope.names→(x,NameKind.cell) ∉ scope.names
 noboth:∀ x,(x,NameKind.free) ∈ scope.names→(x,NameKind.local) ∉ scope.names
 len:N.length=caps.length + 1
 cap:∀ (j i:Nat),caps[j]?=some (some i)→∃ x,N[j]?=some x∧X.N[i]?=some x∧(x,NameKind.free) ∈ scope.names
 acc:∃ z,N[caps.length]?=some z∧¬ Vis (relabel scope X.env) z
section
variable {X:Cx} {pins:List (Addr × Obj)} {σ:L2.St} {H:Hp} {s:Shared} {scope:Scope} {N:List Str} {caps:List (Option Nat)} {fp:List Addr}
theorem dC {env:PySem.Env} {x:Str} {names:List (Str × NameKind)} (h:∀ y,(y,NameKind.free) ∈ names→env.kindOf y=some .cell) (hk:env.scope.kind=.function) {k:NameKind}
   (e:(names.map fun (n,k)=>if (k == NameKind.free && env.scope.kind == .function && env.kindOf n == some .cell) then (n,NameKind.cell) else (n,k)).lookup x=some k) :
   (x,k) ∈ names∨((x,NameKind.free) ∈ names∧k=.cell):=by
 induction names with
 | nil=>cases e
 | cons p r ih=>
   obtain ⟨n,q⟩:=p
   rw [List.map_cons] at e
   have hr:∀ y,(y,NameKind.free) ∈ r→env.kindOf y=some .cell:=fun y hy=>h y (List.mem_cons_of_mem _ hy)
   have sub:((x,k) ∈ r∨((x,NameKind.free) ∈ r∧k=.cell))→(x,k) ∈ (n,q) :: r∨((x,NameKind.free) ∈ (n,q) :: r∧k=.cell):=fun z=>
     z.elim (fun y=>.inl (List.mem_cons_of_mem _ y)) fun y=>.inr ⟨List.mem_cons_of_mem _ y.1,y.2⟩
   dsimp only at e
   split at e
   · rename_i c
     rw [List.lookup_cons] at e
     split at e
     · rename_i qq
       cases e
       rw [Bool.and_eq_true,Bool.and_eq_true] at c
       rw [eq_of_beq qq,eq_of_beq c.1.1]
       exact .inr ⟨List.mem_cons_self,rfl⟩
     · exact sub (ih hr e)
   · rename_i c
     rw [List.lookup_cons] at e
     split at e
     · rename_i qq
       cases e
       rw [eq_of_beq qq]
       exact .inl List.mem_cons_self
     · exact sub (ih hr e)
theorem lN (I:Inv X pins σ H s) (c:mY X scope N caps):∀ x ∈ scope.names,x.2=.free→∃ d,X.env.cells.lookup x.1=some d:=fun x hx hf=>I.ok.has x.1 (.inl (c.fre x hx hf))
theorem wX (I:Inv X pins σ H s) (hf:∀ b ∈ fp,rR X pins H b) (ho:∀ b ∈ fp,∃ o,s.heap.get? b=some o) (c:mY X scope N caps) :
   Inv (bc X s H scope N fp) [] (oq σ caps++[some (.ref s.heap.objs.size)]) (upd H s.heap.objs.size (.lst []))
     { s with heap:=pushCells ((s.heap.push { cls:=.type "list",data:=.seq ([]:List Value).toArray }).push { cls:=.type "dict",data:=.dict #[] }) scope.names }:=by
 have hcl:∀ x d,(gZ X.env scope.names []).lookup x=some d→X.env.cells.lookup x=some d:=fun x d=>jJ X.env scope.names [] x d (fun y d z=>by simp at z)
 have kp:∀ b o,s.heap.get? b=some o→(pushCells ((s.heap.push { cls:=.type "list",data:=.seq ([]:List Value).toArray }).push { cls:=.type "dict",data:=.dict #[] }) scope.names).get? b=some o:=fun b o e=>
   pushCells_keeps _ _ b o (Heap.get?_push_of_some _ (Heap.get?_push_of_some _ e))
 have sz2:((s.heap.push { cls:=.type "list",data:=.seq ([]:List Value).toArray }).push { cls:=.type "dict",data:=.dict #[] }).objs.size=s.heap.objs.size + 1 + 1:=by rw [Heap.size_push,Heap.size_push]
 have oldc:∀ x d,X.env.cells.lookup x=some d→d < s.heap.objs.size:=fun x d e=>by
   obtain ⟨v,o,q,_⟩:=I.cell x d e
   exact Heap.lt_size q
 have cel:∀ x d,(bc X s H scope N fp).env.cells.lookup x=some d→s.heap.objs.size + 1 + 1≤d∨X.env.cells.lookup x=some d:=fun x d e=>by
   rcases BK _ _ _ x d e with q | q
   · exact .inl q
   · exact .inr (hcl x d q)
 have ok:(bc X s H scope N fp).Ok:=by
   refine ⟨I.ok.mod,c.kind,I.ok.glob,I.ok.blt,Nat.le_succ _,?_,?_,?_,I.ok.hd,I.ok.frames,.inl rfl,?_,I.bs,Nat.le_trans I.ok.bsz I.sz,?_,?_,I.stack,I.zo⟩
   · exact ym _ _ _ (fun x d e=>Nat.lt_of_lt_of_le (oldc x d (hcl x d e)) (by omega)) fun x y d e1 e2=>I.ok.inj x y d (hcl x d e1) (hcl y d e2)
   · intro x hx
     have hfk:∀ y,(y,NameKind.free) ∈ scope.names→X.env.kindOf y=some .cell:=fun y hy=>c.fre _ hy rfl
     have fre:(x,NameKind.free) ∈ scope.names→∃ d,(bc X s H scope N fp).env.cells.lookup x=some d:=fun hm=>by
       obtain ⟨d,hd⟩:=lN I c _ hm rfl
       exact ⟨d,by
         show (cellsFrom _ scope.names _).lookup x=_
         rw [qI _ _ _ x (c.one x hm)]
         exact iq X.env scope.names [] x d (fun y e z=>by simp at z) hd (.inl hm)⟩
     have own:(x,NameKind.cell) ∈ scope.names→∃ d,(bc X s H scope N fp).env.cells.lookup x=some d:=fun hm=>by
       obtain ⟨d,e,_⟩:=uh scope.names (s.heap.objs.size + 1 + 1) (gZ X.env scope.names []) x hm
       exact ⟨d,e⟩
     rcases hx with hx | hx
     · rcases dC hfk I.ok.kind (show (scope.names.map _).lookup x=some .cell from hx) with q | q
       · exact own q
       · exact fre q.1
     · rcases dC hfk I.ok.kind (show (scope.names.map _).lookup x=some .free from hx) with q | q
       · exact fre q
       · exact fre q.1
   · intro x d hfn e
     have hm:(x,NameKind.cell) ∈ scope.names:=of_decide_eq_true hfn
     obtain ⟨d',e',l⟩:=uh scope.names (s.heap.objs.size + 1 + 1) (gZ X.env scope.names []) x hm
     have e2:(cellsFrom (s.heap.objs.size + 1 + 1) scope.names (gZ X.env scope.names [])).lookup x=some d:=e
     rw [e'] at e2; cases e2
     exact Nat.le_trans (Nat.le_trans (Nat.le_succ _) (Nat.le_succ _)) l
   · intro b hb
     obtain ⟨o,q⟩:=ho b hb
     have bl:=Heap.lt_size q
     refine ⟨fun z=>?_,fun x d e z=>?_⟩
     · have z':b=s.heap.objs.size + 1:=z
       rw [z'] at bl
       exact absurd bl (Nat.not_lt.mpr (Nat.le_succ _))
     · subst z
       rcases cel x d e with q | q
       · exact absurd (Nat.lt_of_lt_of_le bl (Nat.le_trans (Nat.le_trans (Nat.le_succ _) (Nat.le_succ _)) q)) (Nat.lt_irrefl _)
       · exact (hf d hb).2.2.2.2.1 x d q rfl
   · intro b o e hb
     rcases (hf b hb).2.2.2.1 with q | q
     · exact I.ok.noex b o e q
     · have:=Nat.lt_of_lt_of_le (Heap.lt_size e) I.ok.bsz
       exact absurd (Nat.lt_of_lt_of_le this q) (Nat.lt_irrefl _)
   · intro b hb hm
     rcases List.mem_cons.mp (I.yq b hm) with q | q
     · exact (hf b hb).2.1 q
     · exact (hf b hb).2.2.1 q
 have hD:(pushCells ((s.heap.push { cls:=.type "list",data:=.seq ([]:List Value).toArray }).push { cls:=.type "dict",data:=.dict #[] }) scope.names).get? s.heap.objs.size=some { cls:=.type "list",data:=.seq ([]:List Value).toArray }:=
   pushCells_keeps _ _ _ _ (Heap.get?_push_of_some _ (Heap.get?_push_size _ rfl))
 have fr:∀ a,s.heap.objs.size≤a→a ≠ s.heap.objs.size→(upd H s.heap.objs.size (.lst [])) a=none:=fun a h1 h2=>by rw [aK h2]; exact I.hok.fresh h1
 refine ⟨ok,rfl,I.bare,Un.laid kp (Nat.le_refl _) (I.hok.fresh (Nat.le_refl _)),⟨fun _=>none,?_,fun i x v e1 e2 e3=>?_⟩,fun x d e=>?_,?_,fun x d e=>?_,fun p hp=>absurd (show p ∈ ([]:List (Addr × Obj)) from hp) (by simp),?_,?_⟩
 · have:=Heap.Ns.new (s.heap.push { cls:=.type "list",data:=.seq ([]:List Value).toArray }) (.type "dict")
   rw [Heap.size_push] at this
   exact this.keeps (pushCells_keeps _ _)
 · by_cases hi:i < caps.length
   · rw [List.getElem?_append_left (by unfold oq; rw [List.length_map]; exact hi)] at e2
     unfold oq at e2
     rw [List.getElem?_map] at e2
     cases hc:caps[i]? with
     | none=>rw [hc] at e2; cases e2
     | some o=>
       rw [hc] at e2
       cases o with
       | none=>cases e2
       | some j=>
         have e2':(σ[j]?).join=some v:=Option.some.inj e2
         have e4:σ[j]?=some (some v):=by
           cases q:σ[j]? with
           | none=>rw [q] at e2'; cases e2'
           | some y=>rw [q] at e2'; exact congrArg some e2'
         obtain ⟨x',g1,g2,g3⟩:=c.cap i j hc
         rw [show (bc X s H scope N fp).N=N from rfl,g1] at e1
         cases e1
         have hkc:=c.fre _ g3 rfl
         obtain ⟨m,_,hl⟩:=I.loc
         obtain ⟨u,ru,look⟩:=hl j x v g2 e4 (.inr (.inl hkc))
         refine ⟨u,ru,?_⟩
         rcases look with ⟨k,_⟩ | ⟨k,d,hd,hcell⟩
         · rw [hkc] at k; cases k
         · have e5:(bc X s H scope N fp).env.cells.lookup x=some d:=by
             show (cellsFrom _ scope.names _).lookup x=_
             rw [qI _ _ _ x (c.one x g3)]
             exact iq X.env scope.names [] x d (fun y e z=>by simp at z) hd (.inl g3)
           have hcell':Heap.IsCell (pushCells ((s.heap.push { cls:=.type "list",data:=.seq ([]:List Value).toArray }).push { cls:=.type "dict",data:=.dict #[] }) scope.names) d (some u):=by
             obtain ⟨o,q1,q2⟩:=hcell
             exact ⟨o,kp _ _ q1,q2⟩
           refine .inr ⟨?_,d,e5,hcell'⟩
           rcases e3 with e3 | e3 | e3
           · exfalso
             rcases dC (fun y hy=>c.fre _ hy rfl) I.ok.kind (show (scope.names.map _).lookup x=some .local from e3) with q | q
             · have q1:=c.loc _ q rfl
               exact c.noboth x g3 q
             · cases q.2
           · exact .inl e3
           · exact .inr e3
   · exfalso
     obtain ⟨z,z1,z2⟩:=c.acc
     have hl:i < N.length:=(List.getElem?_eq_some_iff.mp e1).1
     have:i=caps.length:=by have:=c.len; omega
     subst this
     rw [show (bc X s H scope N fp).N=N from rfl,z1] at e1
     cases e1
     exact z2 e3
 · rw [show (bc X s H scope N fp).env.cells=cellsFrom (s.heap.objs.size + 1 + 1) scope.names (gZ X.env scope.names []) from rfl,← sz2] at e
   refine uK scope.names _ _ (fun y d' q=>?_) x d e
   obtain ⟨v,o,q1,q2⟩:=I.cell y d' (hcl y d' q)
   exact ⟨v,o,Heap.get?_push_of_some _ (Heap.get?_push_of_some _ q1),q2⟩
 · exact fr _ (Nat.le_succ _) (Nat.succ_ne_self _)
 · rcases cel x d e with q | q
   · exact fr d (by omega) (by intro z; omega)
   · rw [aK (Nat.ne_of_lt (oldc x d q))]; exact I.freeC x d q
 · exact I.hok.laid kp (Nat.le_refl _) ⟨Nat.zero_le _,[],0,.nil,hD⟩
 · rw [List.length_append]
   unfold oq
   rw [List.length_map,show (bc X s H scope N fp).N=N from rfl,c.len]
   rfl
end
end Ev
namespace Ev
open PySem PySem.Spec PyProof.Rows L2
noncomputable def PTs (X:Cx) (ifs:List Expr) (t:TT):Prop:=
 ∀ (pins:List (Addr × Obj)) (s:Shared) (σ:L2.St) (H:Hp) (Q:Bool→Hp→Prop),Inv X pins σ H s→t σ H Q →
   wpAny (model X.prog X.w) X.A (forIn ifs true fun c r=>if r=true then do let ok ← isTrue c X.env (eval c X.env); pure (ForInStep.yield ok) else pure (ForInStep.yield r)) (TP X pins σ Q) X.xe s
section
variable {prog:Program} {w:World} {A:Around} {R:Result→Shared→Prop} {s:Shared}
theorem qd {elt target iter:Expr} {ifs:List Expr} {scope:Scope} {pos:Pos} {it acc:Value} {env:PySem.Env} (Iv:Nat→Shared→Prop)
   (step:∀ n s,Iv n s→wpAny (model prog w) A (pyNext it) (fun r s₁=>match r with
     | none=>R (.ok .next) s₁
     | some v=>wpAny (model prog w) A (letOwnedTupleGo target it v) (fun _ s₀=>wpAny (model prog w) A (assign target env v) (fun _ s₂=>
         wpAny (model prog w) A (forIn ifs true fun c r=>if r=true then do let ok ← isTrue c env (eval c env); pure (ForInStep.yield ok) else pure (ForInStep.yield r)) (fun ok s₃=>
           if ok=true then wpAny (model prog w) A (eval elt env) (fun x s₄=>
             wpAny (model prog w) A (call (.builtin "list.append") [acc,x]) (fun _ s₅=>∃ m,m < n∧Iv m s₅) (fun _ _=>False) s₄) (fun _ _=>False) s₃
           else ∃ m,m < n∧Iv m s₃) (fun _ _=>False) s₂) (fun _ _=>False) s₀) (fun _ _=>False) s₁) (fun _ _=>False) s)
   (n:Nat) (h:Iv n s):codeAny (model prog w) A (.compLoop (.ListComp elt [⟨target,iter,ifs,0⟩] scope pos) 0 it acc env) R s:=by
 have no:∀ {α:Type} {t:Sem α} {Q:α→Shared→Prop} {s:Shared} {E:Value→Shared→Prop},wpAny (model prog w) A t Q (fun _ _=>False) s→wpAny (model prog w) A t Q E s:=fun h=>wpAny_mono h (fun _ _ q=>q) fun _ _ q=>q.elim
 refine codeAny_loop rfl Iv (fun n s hI=>?_) n h
 show wpAny _ A (Sem.onRaise (compTurn (.ListComp elt [⟨target,iter,ifs,0⟩] scope pos) 0 it acc env) (fun x=>do noteFrame x env; theTreesLotGoes x)) _ _ s
 refine wpAny_noted ?_
 rw [compTurn_list]
 refine wpAny_bind (wpAny_standAt (wpAny_bind (thn (no (step n s hI)) fun r s₁ h₁=>?_)))
 cases r with
 | none=>exact wpAny_pure h₁
 | some v=>
   refine wpAny_bind (thn (no h₁) fun _ s₀ h₀=>wpAny_bind (thn (no h₀) fun _ s₂ h₂=>wpAny_bind (thn (no h₂) fun ok s₃ h₃=>?_)))
   cases ok with
   | false=>exact wpAny_pure ⟨rfl,h₃⟩
   | true=>exact wpAny_bind (wpAny_bind (thn (no h₃) fun x s₄ h₄=>wpAny_bind (thn (no h₄) fun _ s₅ h₅=>wpAny_pure (wpAny_pure ⟨rfl,h₅⟩))))
end
noncomputable def oJ (In:TG→TT→TE→Prop) (caps:List (Option Nat)) (wi:TI):TE:=fun σ H Q=>wi σ H fun J H1=>∃ g tt te,In g tt te∧∀ D,H1 D=none →
 ∃ Z:Nat→Nat→L2.St→Hp→Prop,(∃ m,Z 0 m (oq σ caps++[some (.ref D)]) (upd H1 D (.lst [])))∧∀ i m σ' H',Z i m σ' H' →
   (J.stop i H'∧Q (.ref D) H')∨(J.go i H'∧∀ x H2,J.yld i H' x H2→g x σ' H2 fun σ2 H3=>tt σ2 H3 fun b H4=>
     if b=true then te σ2 H4 fun v H5=>∃ vs m',H5 D=some (.lst vs)∧vs.length < sizeLine∧m' < m∧Z (i + 1) m' σ2 (upd H5 D (.lst (vs++[v]))) else ∃ m',m' < m∧Z (i + 1) m' σ2 H4)
theorem mE {X:Cx} {elt tg iter:Expr} {ifs:List Expr} {scope:Scope} {N:List Str} {caps:List (Option Nat)} {pos:Pos} {wi:TI} {In:TG→TT→TE→Prop} (hc:X.calm=true) (c:mY X scope N caps) (hi:PI X tg iter wi)
   (hs:∀ x,foldedSetIterable iter X.env x=pure x)
   (hin:∀ g tt te,In g tt te→∀ s H fp,PG (bc X s H scope N fp) tg g∧PTs (bc X s H scope N fp) ifs tt∧PE (bc X s H scope N fp) elt te) :
   PE X (.ListComp elt [⟨tg,iter,ifs,0⟩] scope pos) (oJ In caps wi):=by
 intro pins s σ H Q I h
 rw [eval_ListComp]
 have hcl:=za (lN I c)
 refine wpAny_comprehension_free (use:=none) (g:=⟨tg,iter,ifs,0⟩) (gs:=[]) rfl hs hcl c.kind c.loc ?_
 show wpAny _ _ (eval iter X.env) _ _ s
 refine thn (hi pins s σ H _ I h) fun v s1 h1=>thn h1 fun itv s2 h2=>?_
 obtain ⟨it,fp,tn,J,H2,e,I2,T,st2,f2,g,tt,te,hI,q⟩:=h2
 subst e
 obtain ⟨Z,⟨m0,z0⟩,turn⟩:=q s2.heap.objs.size (I2.hok.fresh (Nat.le_refl _))
 have ho:∀ b ∈ fp,∃ o,s2.heap.get? b=some o:=fun b hb=>let ⟨o,e,_⟩:=T.obj _ _ st2 b hb; ⟨o,e⟩
 have I4:=wX (scope:=scope) (N:=N) (caps:=caps) I2 f2 ho c
 obtain ⟨hg,ht,he⟩:=hin g tt te hI s2 H2 fp
 refine wpAny_newObj_type (td ?_) (by show 0≤sizeLine; decide)
 have hC:(s2.heap.push { cls:=.type "list",dict:=none,data:=.seq ([]:List Value).toArray }).objs.size=s2.heap.objs.size + 1:=Heap.size_push ..
 dsimp only
 rw [hC]
 have kp:∀ b o,s2.heap.get? b=some o→(pushCells ((s2.heap.push { cls:=.type "list",data:=.seq ([]:List Value).toArray }).push { cls:=.type "dict",data:=.dict #[] }) scope.names).get? b=some o:=fun b o e=>
   pushCells_keeps _ _ b o (Heap.get?_push_of_some _ (Heap.get?_push_of_some _ e))
 have st4:tn 0 (pushCells ((s2.heap.push { cls:=.type "list",data:=.seq ([]:List Value).toArray }).push { cls:=.type "dict",data:=.dict #[] }) scope.names):=T.keep _ _ _ st2 fun b _ o e=>kp b o e
 have stat:∀ {H':Hp},(∀ b ∈ fp,H' b=none)→∀ b ∈ fp,rR (bc X s2 H2 scope N fp) [] H' b:=fun hn b hb=>
   ⟨hn b hb,(I4.ok.exf b hb).1,I4.ok.exfs b hb,.inl hb,(I4.ok.exf b hb).2,fun p hp=>absurd (show p ∈ ([]:List (Addr × Obj)) from hp) (by simp)⟩
 have fr4:∀ b ∈ fp,(upd H2 s2.heap.objs.size (.lst [])) b=none:=fun b hb=>by
   obtain ⟨o,e⟩:=ho b hb
   rw [aK (Nat.ne_of_lt (Heap.lt_size e))]; exact (f2 b hb).1
 have loop:codeAny (model X.prog X.w) X.A (.compLoop (.ListComp elt [⟨tg,iter,ifs,0⟩] scope pos) 0 (.ref it) (.ref s2.heap.objs.size) (bc X s2 H2 scope N fp).env)
     (compPost (model X.prog X.w) X.A X.xe none (EP X pins σ Q) (.ref s2.heap.objs.size) (s2.heap.objs.size + 1))
     { s2 with heap:=pushCells ((s2.heap.push { cls:=.type "list",data:=.seq ([]:List Value).toArray }).push { cls:=.type "dict",data:=.dict #[] }) scope.names }:=by
   refine qd (fun n s'=>∃ i σ' H',Inv (bc X s2 H2 scope N fp) [] σ' H' s'∧tn i s'.heap∧(∀ b ∈ fp,H' b=none)∧Z i n σ' H') ?_ m0 ⟨0,_,_,I4,st4,fr4,z0⟩
   rintro n s3 ⟨i,σ3,H3,I3,st3,fr3,w3⟩
   rcases turn i n σ3 H3 w3 with ⟨stop,qn⟩ | ⟨go,step⟩
   · refine thn (T.done (bc X s2 H2 scope N fp) rfl rfl rfl hc i [] s3 σ3 H3 _ I3 (stat fr3) st3 stop) fun r s5 ⟨hr,I5⟩=>?_
     subst hr
     obtain ⟨m,hn,_⟩:=id I5.loc
     refine ⟨m,hn,fun h' sb=>⟨.ref s2.heap.objs.size,H3,?_,rfl,qn⟩⟩
     have lt:∀ b o,s2.heap.get? b=some o→b ≠ s2.heap.objs.size + 1:=fun b o e=>Nat.ne_of_lt (Nat.lt_succ_of_lt (Heap.lt_size e))
     have u:=I5.base
     have u':Un (frs X.stack) fp H2 H3 s2.heap h':=⟨fun b o e n1 n2 n3=>(sb.2 b (lt b o e)).trans (u.keep b o e n1 n2 n3),fun b o e n1 n2 n3=>let ⟨sl,z⟩:=u.slot b o e n1 n2 n3; ⟨sl,(sb.2 b (lt b o e)).trans z⟩,
       u.free,fun b o e n1=>let ⟨o',z⟩:=u.there b o e n1; ⟨o',(sb.2 b (lt b o e)).trans z⟩,u.tups,u.frzs,u.tbls⟩
     have fC:H3 (s2.heap.objs.size + 1)=none:=I5.free
     refine I2.FP (s':={ s5 with heap:=h' }) I5.os u' (fun b o e=>(I5.hok b o e).mx (fun d v hd z=>(sb.2 d ?_).trans z) (fun _ z=>z) fun _ _ z=>z) I5.bare fun b hb=>⟨(f2 b hb).2.2.2.1,(f2 b hb).2.1,(f2 b hb).2.2.2.2.1,(f2 b hb).2.2.2.2.2⟩
     rcases hd with hd | hd
     · rw [hd]; exact aP e fC
     · exact aP hd fC
   · refine thn (T.item (bc X s2 H2 scope N fp) rfl rfl rfl hc i [] s3 σ3 H3 _ I3 (stat fr3) st3 go) fun r s4 ⟨u,hr,h4⟩=>?_
     subst hr
     refine thn h4 fun _ s5 ⟨x,H5,I5,r5,y5,st5,fr5⟩=>?_
     have I5':=I5.pinned (stat fr5) (T.obj _ _ st5)
     refine thn (hg _ s5 σ3 H5 x u _ I5' r5 (step x H5 y5)) fun _ s6 ⟨σ6,H6,I6,q6⟩=>?_
     have again:∀ {s7:Shared} {σ7:L2.St} {H7:Hp} {m':Nat},Inv (bc X s2 H2 scope N fp) ([]++lY fp s5.heap) σ7 H7 s7→m' < n→Z (i + 1) m' σ7 H7 →
         ∃ m,m < n∧∃ i σ' H',Inv (bc X s2 H2 scope N fp) [] σ' H' s7∧tn i s7.heap∧(∀ b ∈ fp,H' b=none)∧Z i m σ' H':=fun {s7 σ7 H7 m'} I7 hm z7=>by
       refine ⟨m',hm,i + 1,σ7,H7,I7.jd,T.keep _ _ _ st5 fun b hb o e=>(I7.pin (b,o) (List.mem_append_right _ (List.mem_append_right _ (fv hb e)))).1,fun b hb=>?_,z7⟩
       obtain ⟨o,e,d⟩:=T.obj _ _ st5 b hb
       exact (I7.pin (b,o) (List.mem_append_right _ (List.mem_append_right _ (fv hb e)))).2.1
     refine thn (ht _ s6 σ6 H6 _ I6 q6) fun ok s7 ⟨H7,I7,q7⟩=>?_
     cases ok with
     | false=>
       rw [if_neg (by decide)] at q7
       obtain ⟨m',hm,z7⟩:=q7
       exact again I7 hm z7
     | true=>
       rw [if_pos rfl] at q7
       refine thn (he _ s7 σ6 H7 _ I7 q7) fun v' s8 ⟨v,H8,I8,r8,vs,m',q8,l8,hm,z8⟩=>?_
       refine thn (oi (X:=bc X s2 H2 scope N fp) _ s8 σ6 H8 (.ref s2.heap.objs.size) [v] (.ref s2.heap.objs.size) [v'] (fun _ H9=>H9=upd H8 s2.heap.objs.size (.lst (vs++[v]))) I8 rfl (.cons r8 .nil) ⟨_,vs,v,rfl,rfl,q8,l8,rfl⟩) fun _ s9 ⟨_,H9,I9,_,e9⟩=>?_
       subst e9
       exact again I9 hm z8
 exact codeAny_compStart_list loop (T.self _ 0 _ _ _ st4 loop)
end Ev
namespace Ev
open PySem PySem.Spec PyProof.Rows L2
noncomputable def slot:List Str→Str→Option Nat
 | [],_=>none
 | y :: r,x=>if y=x then some 0 else (slot r x).map (· + 1)
theorem slot_get:∀ {N:List Str} {x:Str} {i:Nat},slot N x=some i→N[i]?=some x
 | [],_,_,h=>by cases h
 | y :: r,x,i,h=>by
   unfold slot at h
   split at h
   · rename_i e; cases h; rw [e]; rfl
   · cases q:slot r x with
     | none=>rw [q] at h; cases h
     | some j=>
       rw [q] at h; cases h
       show (y :: r)[j + 1]?=some x
       rw [List.getElem?_cons_succ]; exact slot_get q
noncomputable def iY (sc:Scope) (x:Str):Bool:=match sc.names.lookup x with
 | some .local=>true
 | some .cell=>true
 | _=>false
noncomputable def j1 (sc:Scope) (x:Str):Bool:=match sc.names.lookup x with
 | some .globalImplicit=>true
 | _=>false
theorem kC {sc:Scope} {x:Str} (h:iY sc x=true):sc.names.lookup x=some .local∨sc.names.lookup x=some .cell:=by
 unfold iY at h
 split at h
 · exact .inl (by assumption)
 · exact .inr (by assumption)
 · cases h
theorem mh {sc:Scope} {x:Str} (h:j1 sc x=true):sc.names.lookup x=some .globalImplicit:=by
 unfold j1 at h
 split at h
 · assumption
 · cases h
noncomputable def jy (scope sc:Scope):Scope:={ scope with names:=scope.names.map fun (n,k)=>if (k == .free && sc.kind == .function && sc.names.lookup n == some .cell) then (n,.cell) else (n,k) }
theorem fX {scope sc:Scope} {env:PySem.Env} (h:env.scope=sc):relabel scope env=jy scope sc:=by
 subst h; rfl
noncomputable def ky (scope:Scope):List Str:=(scope.names.filter fun p=>(p.2 == .local || p.2 == .cell || p.2 == .free) && p.1 != (".0" : Str)).map (·.1)
section
variable {X:Cx} {k:Nat} {H₀:Hp}
theorem nC {sc:Scope} {x:Str} (h:sc.names.lookup x=some .local∨sc.names.lookup x=some .cell):Vis sc x:=h.elim .inl fun z=>.inr (.inl z)
theorem aZ.ok {i j:Int} (h:aZ i j):IntMulOk i j:=by
 have b:∀ {k:Int} {n:Nat},k.natAbs.log2 < n→Builtin.Int.intBits k≤n:=fun {k n} q=>by
   unfold Builtin.Int.intBits
   split
   · exact Nat.zero_le _
   · exact q
 rcases h with h | h | ⟨h1,h2⟩
 · exact .of_left (b h)
 · exact .of_right (b h)
 · exact .of_bits (Nat.le_trans (b h1) (by decide)) (Nat.le_trans (b h2) (by decide))
theorem Du:OpR X (binaryOp .FloorDiv) (rI (fun _ j=>bp j) fun i j=>.int (i.fdiv j)):=opI fun _ _ _ _ _ _ _ hc q=>floordiv_int hc.1 q (.inl (PyProof.noPylong_of_log2 hc.2))
theorem DW:OpR X (binaryOp .Mult) (rI aZ fun i j=>.int (i * j)):=opI fun _ _ _ _ _ _ _ hc q=>mul_int q hc.ok
theorem EG:OpR X (binaryOp .Add) (rI (fun _ _=>True) fun i j=>.int (i + j)):=opI fun _ _ _ _ _ _ _ _ q=>add_int q
theorem D5:OpR X (binaryOp .Sub) (rI (fun _ _=>True) fun i j=>.int (i - j)):=opI fun _ _ _ _ _ _ _ _ q=>sub_int q
theorem El:OpR X (binaryOp .BitAnd) (rI (fun _ _=>True) fun i j=>.int (Builtin.bitAnd i j)):=opI fun _ _ _ _ _ _ _ _ q=>and_int q
theorem pL:OpR X (binaryOp .Add) (fun x y H Q=>∃ l b xs zs,x=.ref l∧y=.ref b∧SqL X.K H l xs∧SqL X.K H b zs∧xs.length + zs.length≤sizeLine∧∀ p,H p=none→Q (.ref p) (upd H p (.lst (xs++zs)))):=by
 intro pins s σ H x y v u Q I rx ry h
 obtain ⟨l,b,xs,zs,rfl,rfl,hH,hB,hz,q⟩:=h
 cases rx
 cases ry
 obtain ⟨its,r,pl,_⟩:=I.list hH
 obtain ⟨its2,r2,pl2,_⟩:=I.list hB
 have hl:=r.length
 have hl2:=r2.length
 obtain ⟨⟨cls,dd,data,sl⟩,ho,hc,n,hd⟩:=pl.isList
 obtain ⟨⟨cls2,dd2,data2,sl2⟩,ho2,hc2,n2,hd2⟩:=pl2.isList
 simp only at hc hd hc2 hd2
 subst hc hd hc2 hd2
 have e:its.toArray++its2.toArray=(its++its2).toArray:=by simp
 refine concat_meets ⟨_,ho,rfl⟩ ⟨_,ho2,rfl⟩ noFill_list_add seq_list_add PySem.F.slot_list_add PySem.F.entry_list_add (PySem.F.args_list_add_2 _ _) (list_addW l b its.toArray its2.toArray n n2 dd dd2 sl sl2 (by rw [List.size_toArray,List.size_toArray]; omega)) ⟨ho,ho2,?_⟩
 rw [e]
 exact ⟨.ref _,_,I.KW (t':=s.toks) (r.append r2) (by rw [List.length_append]; omega),rfl,q _ I.fresh⟩
theorem cC:ai < sizeLine:=by decide
end
end Ev
namespace Ev
open PySem PySem.Spec PyProof.Rows L2
section
variable {X:Cx} {k:Nat} {H₀:Hp}
end
end Ev
namespace Ev
open PySem PySem.Spec PyProof.Rows L2
section
variable {X:Cx} {k:Nat} {H₀:Hp}
end
end Ev
namespace Sv
open PySem PySem.Spec PyProof.Rows L2
open Ev (D aZ bp ai)
inductive U where
 | non | bl (b:Bool) | int (i:Int) | str (x:Str) | tup (xs:List U) | loc (l:Nat) | exo (c:Nat) | kl (xs:List U)
 deriving Inhabited
noncomputable abbrev Sto:=List (Bool × List U)
noncomputable abbrev Env:=List (Option U)
inductive Rs (α:Type) where
 | ok (a:α) (st:Sto) | exc (c:Nat) (st:Sto) | bad
noncomputable def Rs.bind {α β:Type}:Rs α→(α→Sto→Rs β)→Rs β
 | .ok a st,f=>f a st
 | .exc c st,_=>.exc c st
 | .bad,_=>.bad
noncomputable def Rs.noX {α:Type}:Rs α→Rs α
 | .exc _ _=>.bad
 | x=>x
theorem Rs.aa {α β:Type} (a:α) (st:Sto) (f:α→Sto→Rs β):(Rs.ok a st).bind f=f a st:=rfl
theorem cc {α:Type} {x:α} {p:Prop} (h:(none:Option α)=some x):p:=by cases h
noncomputable def uS {α β:Type} (f:α→Option β):List α→Option (List β)
 | []=>some []
 | x :: xs=>(f x).bind fun y=>(uS f xs).map (y :: ·)
noncomputable def rsv (st:Sto):Nat→U→Option D
 | _,.non=>some .non
 | _,.bl b=>some (.bl b)
 | _,.int i=>some (.int i)
 | _,.str x=>some (.str x)
 | n + 1,.tup xs=>(uS (rsv st n) xs).map .tup
 | n + 1,.kl xs=>(uS (rsv st n) xs).map .lst
 | n + 1,.loc l=>match st[l]? with | some (_,xs)=>(uS (rsv st n) xs).map .lst | none=>none
 | _,_=>none
inductive Op2 where
 | add | sub | mul | fdiv | mod | pow | shr | shl | band | bor
inductive Cm where
 | eq | ne | lt | le | gt | ge | nin
inductive Ty where
 | int | bool | tuple | list | str
inductive Bi where
 | len | abs | max | min | int | list | tuple | all | rev | sum
inductive Tg where
 | nm (i:Nat) | tp (is:List Nat)
mutual
inductive E where
 | var (i:Nat)
 | cN | cB (b:Bool) | cI (i:Int) | cS (x:Str)
 | op (o:Op2) (a b:E)
 | neg (a:E) | not (a:E)
 | cmp (o:Cm) (a b:E)
 | chain (o o':Cm) (a b c:E)
 | and (a b:E) | or (a b:E)
 | ite (c a b:E)
 | tup (es:List E) | lst (es:List E)
 | ix (a i:E)
 | sl (a lo hi:E)
 | call (f:Nat) (es:List E)
 | bi (b:Bi) (es:List E)
 | isi (a:E) (t:Ty)
 | isB (neg:Bool) (a:E) (b:Bool)
 | isN (neg:Bool) (a:E)
 | comp (caps:List (Option Nat)) (t:Tg) (it:It) (ifs:List E) (elt:E)
inductive It where
 | seq (e:E) | rng (e:E) | rng2 (a b:E) | enu (e:E) | zip (a b:E)
end
instance:Inhabited E:=⟨.cN⟩
noncomputable def new (st:Sto) (xs:List U):Rs U:=.ok (.loc st.length) (st++[(false,xs)])
noncomputable def jC (st:Sto):U→Option (List U)
 | .loc l=>(st[l]?).map (·.2)
 | .kl xs=>some xs
 | _=>none
noncomputable def seq? (st:Sto):U→Option (List U)
 | .loc l=>(st[l]?).map (·.2)
 | .kl xs=>some xs
 | .tup xs=>some xs
 | _=>none
noncomputable def ev2:Op2→U→U→Sto→Rs U
 | .add,.int i,.int j,st=>.ok (.int (i + j)) st
 | .add,.tup xs,.tup ys,st=>if xs ≠ []∧xs.length + ys.length < ai then .ok (.tup (xs++ys)) st else .bad
 | .add,.str x,.str y,st=>if x.length + y.length < ai then .ok (.str (x++y)) st else .bad
 | .add,.loc a,.loc b,st=>match st[a]?,st[b]? with
   | some (_,xs),some (_,ys)=>if xs.length + ys.length < ai then new st (xs++ys) else .bad
   | _,_=>.bad
 | .add,.kl xs,.loc b,st=>match st[b]? with
   | some (_,ys)=>if xs.length + ys.length < ai then new st (xs++ys) else .bad
   | _=>.bad
 | .add,.loc a,.kl ys,st=>match st[a]? with
   | some (_,xs)=>if xs.length + ys.length < ai then new st (xs++ys) else .bad
   | _=>.bad
 | .add,.kl xs,.kl ys,st=>if xs.length + ys.length < ai then new st (xs++ys) else .bad
 | .sub,.int i,.int j,st=>.ok (.int (i - j)) st
 | .mul,.int i,.int j,st=>if aZ i j then .ok (.int (i * j)) st else .bad
 | .mul,x,.int k,st=>match jC st x with
   | some xs=>if 0≤k∧k < 1000∧xs.length * k.toNat < ai then new st (List.replicate k.toNat xs).flatten else .bad
   | none=>.bad
 | .fdiv,.int i,.int j,st=>if bp j then .ok (.int (i.fdiv j)) st else .bad
 | .mod,.int i,.int j,st=>if j ≠ 0 then .ok (.int (i.fmod j)) st else .bad
 | .pow,.int i,.int j,st=>if 0≤j∧j≤1000000∧i.natAbs < 2 ^ 64 then .ok (.int (i ^ j.toNat)) st else .bad
 | .shr,.int i,.int j,st=>if 0≤j then .ok (.int (i / 2 ^ j.toNat)) st else .bad
 | .shl,.int i,.int j,st=>if 0≤j∧j≤1000000∧i.natAbs < 2 ^ 64 then .ok (.int (i * 2 ^ j.toNat)) st else .bad
 | .band,.int i,.int j,st=>.ok (.int (Builtin.bitAnd i j)) st
 | .bor,.int i,.int j,st=>.ok (.int (Builtin.bitOr i j)) st
 | _,_,_,_=>.bad
noncomputable def hJ:List U→Option (List Int)
 | []=>some []
 | .int i :: r=>(hJ r).map (i :: ·)
 | _=>none
noncomputable def evC:Cm→U→U→Sto→Option Bool
 | .eq,x,y,st=>match rsv st 64 x,rsv st 64 y with | some a,some b=>if Ev.yx a∧Ev.yx b then some (Ev.eqD a b) else none | _,_=>none
 | .ne,x,y,st=>match rsv st 64 x,rsv st 64 y with | some a,some b=>if Ev.yx a∧Ev.yx b then some (!Ev.eqD a b) else none | _,_=>none
 | .lt,.int i,.int j,_=>some (decide (i < j))
 | .le,.int i,.int j,_=>some (decide (i≤j))
 | .gt,.int i,.int j,_=>some (decide (j < i))
 | .ge,.int i,.int j,_=>some (decide (j≤i))
 | .nin,.int x,y,st=>match jC st y with | some ys=>(hJ ys).map fun l=>!l.any (· == x) | none=>none
 | _,_,_,_=>none
noncomputable def ofO:Option Bool→Sto→Rs U
 | some b,st=>.ok (.bl b) st
 | none,_=>.bad
noncomputable def A5:Ty→U→Bool
 | .int,.int _=>true
 | .int,.bl _=>true
 | .bool,.bl _=>true
 | .tuple,.tup _=>true
 | .list,.loc _=>true
 | .list,.kl _=>true
 | .str,.str _=>true
 | _,_=>false
noncomputable def allB:List U→Option Bool
 | []=>some true
 | .bl b :: r=>(allB r).map (b && ·)
 | _=>none
noncomputable def Dc (xs:List U) (lo hi:Option Int):List U:=(xs.drop (HT.sIx xs.length 0 lo)).take (HT.sIx xs.length xs.length hi - HT.sIx xs.length 0 lo)
noncomputable def xy:E→U→Option (Option Int)
 | .cN,_=>some none
 | _,.int i=>some (some i)
 | _,_=>none
noncomputable def DH (x:U) (lo hi:Option Int) (st:Sto):Rs U:=match jC st x with
 | some xs=>new st (Dc xs lo hi)
 | none=>.bad
noncomputable def A4 (b:Bool):U→Bool
 | .bl c=>c == b
 | _=>false
noncomputable def A2:U→Bool
 | .non=>true
 | _=>false
noncomputable def xB (a:Int) (as:List Int):Int:=as.foldl (fun m x=>if m < x then x else m) a
noncomputable def ofM:Option (List Int)→Sto→Rs U
 | some (a :: as),st=>.ok (.int (xB a as)) st
 | _,_=>.bad
noncomputable def ofZ:Option (List Int)→Sto→Rs U
 | some ns,st=>.ok (.int ns.sum) st
 | _,_=>.bad
noncomputable def evB:Bi→List U→Sto→Rs U
 | .len,[x],st=>match seq? st x with | some xs=>.ok (.int xs.length) st | none=>.bad
 | .abs,[.int i],st=>.ok (.int (if i < 0 then -i else i)) st
 | .max,[.int i,.int j],st=>.ok (.int (if j > i then j else i)) st
 | .max,[x],st=>match jC st x with | some xs=>ofM (hJ xs) st | none=>.bad
 | .min,[.int i,.int j],st=>.ok (.int (if j < i then j else i)) st
 | .int,[.int i],st=>.ok (.int i) st
 | .int,[.bl b],st=>.ok (.int (if b then 1 else 0)) st
 | .list,[x],st=>match seq? st x with | some xs=>new st xs | none=>.bad
 | .tuple,[x],st=>match seq? st x with | some xs=>.ok (.tup xs) st | none=>.bad
 | .all,[x],st=>match jC st x with | some xs=>ofO (allB xs) st | none=>.bad
 | .rev,[x],st=>match jC st x with | some xs=>new st xs.reverse | none=>.bad
 | .sum,[x],st=>match jC st x with | some xs=>ofZ (hJ xs) st | none=>.bad
 | _,_,_=>.bad
noncomputable def evI (x y:U) (st:Sto):Rs U:=match seq? st x,y with
 | some xs,.int i=>match atI xs i with | some d=>.ok d st | none=>.bad
 | _,_=>.bad
noncomputable def rA (ρ:Env) (i:Nat) (st:Sto):Rs U:=match ρ[i]? with | some (some d)=>.ok d st | _=>.bad
noncomputable def lZ:List Nat→List U→Env→Option Env
 | [],[],ρ=>some ρ
 | i :: is,x :: xs,ρ=>lZ is xs (ρ.set i (some x))
 | _,_,_=>none
noncomputable def iz:Tg→U→Env→Option Env
 | .nm i,d,ρ=>some (ρ.set i (some d))
 | .tp is,.tup xs,ρ=>lZ is xs ρ
 | _,_,_=>none
inductive Sq where
 | vals (xs:List U) | lst (l:Nat) | enu (l:Nat) | zip (p q:Sq)
noncomputable def KH:Option U→Option U→Option U
 | some x,some y=>some (.tup [x,y])
 | _,_=>none
noncomputable def Sq.at:Sq→Sto→Nat→Option (Option U)
 | .vals xs,_,i=>some xs[i]?
 | .lst l,st,i=>(st[l]?).map fun o=>o.2[i]?
 | .enu l,st,i=>(st[l]?).map fun o=>(o.2[i]?).map fun x=>.tup [.int (i:Nat),x]
 | .zip p q,st,i=>(p.at st i).bind fun o=>(q.at st i).map fun o'=>KH o o'
noncomputable def Sq.len:Sq→Sto→Nat
 | .vals xs,_=>xs.length
 | .lst l,st=>((st[l]?).map fun o=>o.2.length).getD 0
 | .enu l,st=>((st[l]?).map fun o=>o.2.length).getD 0
 | .zip p q,st=>min (p.len st) (q.len st)
noncomputable def src (st:Sto):U→Option Sq
 | .loc l=>if l < st.length then some (.lst l) else none
 | .kl xs=>some (.vals xs)
 | _=>none
noncomputable def LA:Option Sq→Option Sq→Sto→Rs Sq
 | some p,some q,st=>.ok (.zip p q) st
 | _,_,_=>.bad
noncomputable def vx (k:Nat):List U→List U
 | []=>[]
 | x :: xs=>.tup [.int (k:Nat),x] :: vx (k + 1) xs
noncomputable def lO (lo:Int) (n:Nat):List U:=(List.range n).map fun k=>U.int (lo + (k:Nat))
noncomputable def ko (ρ:Env) (caps:List (Option Nat)):Env:=caps.map fun o=>o.bind fun i=>(ρ[i]?).join
noncomputable def iQ (f:U→Sto→Rs (Option U)) (q:Sq):Nat→Nat→Sto→Rs (List U)
 | 0,_,_=>.bad
 | n + 1,i,st=>match q.at st i with
   | none=>.bad
   | some none=>.ok [] st
   | some (some x)=>(f x st).bind fun o st1=>(iQ f q n (i + 1) st1).bind fun ys st2=>.ok (match o with | some y=>y :: ys | none=>ys) st2
noncomputable abbrev Fn:=Nat→List U→Sto→Rs U
mutual
noncomputable def xE (Φ:Fn):E→Env→Sto→Rs U
 | .var i,ρ,st=>rA ρ i st
 | .cN,_,st=>.ok .non st
 | .cB b,_,st=>.ok (.bl b) st
 | .cI i,_,st=>.ok (.int i) st
 | .cS x,_,st=>.ok (.str x) st
 | .op o a b,ρ,st=>(xE Φ a ρ st).bind fun x st1=>(xE Φ b ρ st1).bind fun y st2=>ev2 o x y st2
 | .neg a,ρ,st=>(xE Φ a ρ st).bind fun x st1=>match x with | .int i=>.ok (.int (-i)) st1 | _=>.bad
 | .not a,ρ,st=>(xE Φ a ρ st).bind fun x st1=>match x with | .bl b=>.ok (.bl (!b)) st1 | _=>.bad
 | .cmp o a b,ρ,st=>(xE Φ a ρ st).bind fun x st1=>(xE Φ b ρ st1).bind fun y st2=>ofO (evC o x y st2) st2
 | .chain o o' a b c,ρ,st=>(xE Φ a ρ st).bind fun x st1=>(xE Φ b ρ st1).bind fun y st2=>match evC o x y st2 with
   | some true=>(xE Φ c ρ st2).bind fun u st3=>ofO (evC o' y u st3) st3
   | some false=>.ok (.bl false) st2
   | none=>.bad
 | .and a b,ρ,st=>(xE Φ a ρ st).bind fun x st1=>match x with | .bl true=>xE Φ b ρ st1 | .bl false=>.ok (.bl false) st1 | _=>.bad
 | .or a b,ρ,st=>(xE Φ a ρ st).bind fun x st1=>match x with | .bl true=>.ok (.bl true) st1 | .bl false=>xE Φ b ρ st1 | _=>.bad
 | .ite c a b,ρ,st=>(xE Φ c ρ st).bind fun x st1=>match x with | .bl true=>xE Φ a ρ st1 | .bl false=>xE Φ b ρ st1 | _=>.bad
 | .tup es,ρ,st=>(xEs Φ es ρ st).bind fun xs st1=>if xs.length < ai then .ok (.tup xs) st1 else .bad
 | .lst es,ρ,st=>(xEs Φ es ρ st).bind fun xs st1=>if xs.length < ai then new st1 xs else .bad
 | .ix a i,ρ,st=>(xE Φ a ρ st).bind fun x st1=>(xE Φ i ρ st1).bind fun y st2=>evI x y st2
 | .sl a l h,ρ,st=>(xE Φ a ρ st).bind fun x st1=>(xE Φ l ρ st1).bind fun y st2=>match xy l y with
   | none=>.bad
   | some lo=>(xE Φ h ρ st2).bind fun z st3=>match xy h z with | none=>.bad | some hi=>DH x lo hi st3
 | .call f es,ρ,st=>(xEs Φ es ρ st).bind fun xs st1=>Φ f xs st1
 | .bi b es,ρ,st=>(xEs Φ es ρ st).bind fun xs st1=>evB b xs st1
 | .isi a t,ρ,st=>(xE Φ a ρ st).bind fun x st1=>match x with | .exo _=>.bad | x=>.ok (.bl (A5 t x)) st1
 | .isB n a b,ρ,st=>(xE Φ a ρ st).bind fun x st1=>.ok (.bl (n ^^ A4 b x)) st1
 | .isN n a,ρ,st=>(xE Φ a ρ st).bind fun x st1=>.ok (.bl (n ^^ A2 x)) st1
 | .comp caps t it ifs elt,ρ,st=>(xIt Φ it ρ st).bind fun q st1=>if q.len st1 < ai then
     ((iQ (fun x st=>match iz t x (ko ρ caps++[none]) with
         | none=>.bad
         | some ρ1=>(xIf Φ ifs ρ1 st).bind fun b st2=>if b then (xE Φ elt ρ1 st2).bind fun y st3=>.ok (some y) st3 else .ok none st2) q (q.len st1 + 1) 0 st1).bind fun ys st2=>new st2 ys).noX
   else .bad
noncomputable def xEs (Φ:Fn):List E→Env→Sto→Rs (List U)
 | [],_,st=>.ok [] st
 | e :: es,ρ,st=>(xE Φ e ρ st).bind fun x st1=>(xEs Φ es ρ st1).bind fun xs st2=>.ok (x :: xs) st2
noncomputable def xIf (Φ:Fn):List E→Env→Sto→Rs Bool
 | [],_,st=>.ok true st
 | c :: cs,ρ,st=>(xE Φ c ρ st).bind fun x st1=>match x with | .bl true=>xIf Φ cs ρ st1 | .bl false=>.ok false st1 | _=>.bad
noncomputable def xIt (Φ:Fn):It→Env→Sto→Rs Sq
 | .seq e,ρ,st=>(xE Φ e ρ st).bind fun x st1=>match x with | .loc l=>(if l < st1.length then .ok (.lst l) st1 else .bad) | .tup xs=>.ok (.vals xs) st1 | .kl xs=>.ok (.vals xs) st1 | _=>.bad
 | .rng e,ρ,st=>(xE Φ e ρ st).bind fun x st1=>match x with | .int j=>if -(2 ^ 62)≤j∧j < 2 ^ 62 then .ok (.vals (lO 0 j.toNat)) st1 else .bad | _=>.bad
 | .rng2 a b,ρ,st=>(xE Φ a ρ st).bind fun x st1=>(xE Φ b ρ st1).bind fun y st2=>match x,y with
   | .int i,.int j=>if (-(2 ^ 62)≤i∧i < 2 ^ 62)∧-(2 ^ 62)≤j∧j < 2 ^ 62 then .ok (.vals (lO i (j - i).toNat)) st2 else .bad
   | _,_=>.bad
 | .enu e,ρ,st=>(xE Φ e ρ st).bind fun x st1=>match x with | .loc l=>(if l < st1.length then .ok (.enu l) st1 else .bad) | .kl xs=>.ok (.vals (vx 0 xs)) st1 | _=>.bad
 | .zip a b,ρ,st=>(xE Φ a ρ st).bind fun x st1=>(xE Φ b ρ st1).bind fun y st2=>LA (src st2 x) (src st2 y) st2
end
inductive Lm where
 | append | extend | insert | pop | popAt | clear
inductive S where
 | set (t:Tg) (e:E)
 | put (a i e:E)
 | mth (m:Lm) (a:E) (es:List E)
 | ret (e:E) | retN
 | ite (c:E) (a b:List S)
 | for (t:Tg) (it:It) (body:List S)
 | while (c:E) (body:List S)
 | expr (e:E)
 | raise (c:Nat)
 | brk | cont | pas | nev
 deriving Inhabited
inductive Fl where
 | nx (ρ:Env) | rt (d:U) | bk (ρ:Env) | ct (ρ:Env)
noncomputable def evM:Lm→U→List U→Sto→Option Sto
 | .append,.loc l,[x],st=>match st[l]? with | some (false,xs)=>if xs.length < ai then some (st.set l (false,xs++[x])) else none | _=>none
 | .extend,.loc l,[.loc k],st=>match st[l]?,st[k]? with
   | some (false,xs),some (false,ys)=>if xs.length + ys.length < ai then some (st.set l (false,xs++ys)) else none
   | _,_=>none
 | .insert,.loc l,[.int i,x],st=>match st[l]? with
   | some (false,xs)=>if xs.length < ai∧0≤i∧i.toNat≤xs.length then some (st.set l (false,xs.insertIdx i.toNat x)) else none
   | _=>none
 | .pop,.loc l,[],st=>match st[l]? with | some (false,xs)=>if xs=[] then none else some (st.set l (false,xs.dropLast)) | _=>none
 | .popAt,.loc l,[.int i],st=>match st[l]? with
   | some (false,xs)=>if xs.length < ai then (L2.ixN xs.length i).map fun j=>st.set l (false,xs.eraseIdx j) else none
   | _=>none
 | .clear,.loc l,[],st=>match st[l]? with | some (false,_)=>some (st.set l (false,[])) | _=>none
 | _,_,_,_=>none
noncomputable def evP (x y z:U) (st:Sto):Option Sto:=match x,y with
 | .loc l,.int i=>match st[l]? with
   | some (false,xs)=>(L2.ixN xs.length i).map fun j=>st.set l (false,xs.set j z)
   | _=>none
 | _,_=>none
noncomputable def ofS:Option Sto→Env→Rs Fl
 | some st,ρ=>.ok (.nx ρ) st
 | none,_=>.bad
noncomputable def loop (f:U→Env→Sto→Rs Fl) (q:Sq):Nat→Nat→Env→Sto→Rs Fl
 | 0,_,_,_=>.bad
 | n + 1,i,ρ,st=>match q.at st i with
   | none=>.bad
   | some none=>.ok (.nx ρ) st
   | some (some x)=>(f x ρ st).bind fun r st1=>match r with
     | .nx ρ'=>loop f q n (i + 1) ρ' st1
     | .ct ρ'=>loop f q n (i + 1) ρ' st1
     | .bk ρ'=>.ok (.nx ρ') st1
     | .rt d=>.ok (.rt d) st1
noncomputable def oU (c:Env→Sto→Rs U) (f:Env→Sto→Rs Fl):Nat→Env→Sto→Rs Fl
 | 0,_,_=>.bad
 | n + 1,ρ,st=>(c ρ st).bind fun x st1=>match x with
   | .bl true=>(f ρ st1).bind fun r st2=>match r with
     | .nx ρ'=>oU c f n ρ' st2
     | .ct ρ'=>oU c f n ρ' st2
     | .bk ρ'=>.ok (.nx ρ') st2
     | .rt d=>.ok (.rt d) st2
   | .bl false=>.ok (.nx ρ) st1
   | _=>.bad
mutual
noncomputable def xS (Φ:Fn) (n:Nat):S→Env→Sto→Rs Fl
 | .set t e,ρ,st=>(xE Φ e ρ st).bind fun x st1=>match iz t x ρ with | some ρ'=>.ok (.nx ρ') st1 | none=>.bad
 | .put a i e,ρ,st=>(xE Φ e ρ st).bind fun z st1=>(xE Φ a ρ st1).bind fun x st2=>(xE Φ i ρ st2).bind fun y st3=>ofS (evP x y z st3) ρ
 | .mth m a es,ρ,st=>(xE Φ a ρ st).bind fun x st1=>match x with
   | .loc l=>if l < st1.length then (xEs Φ es ρ st1).bind fun xs st2=>ofS (evM m (.loc l) xs st2) ρ else .bad
   | _=>.bad
 | .ret e,ρ,st=>(xE Φ e ρ st).bind fun x st1=>.ok (.rt x) st1
 | .retN,_,st=>.ok (.rt .non) st
 | .ite c a b,ρ,st=>(xE Φ c ρ st).bind fun x st1=>match x with | .bl true=>xSs Φ n a ρ st1 | .bl false=>xSs Φ n b ρ st1 | _=>.bad
 | .for t it body,ρ,st=>((xIt Φ it ρ st).bind fun q st1=>loop (fun x ρ' st'=>match iz t x ρ' with | some ρ2=>xSs Φ n body ρ2 st' | none=>.bad) q (q.len st1 + 1) 0 ρ st1).noX
 | .while c body,ρ,st=>(oU (fun ρ' st'=>xE Φ c ρ' st') (fun ρ' st'=>xSs Φ n body ρ' st') n ρ st).noX
 | .expr e,ρ,st=>(xE Φ e ρ st).bind fun _ st1=>.ok (.nx ρ) st1
 | .raise c,_,st=>.exc c st
 | .brk,ρ,st=>.ok (.bk ρ) st
 | .cont,ρ,st=>.ok (.ct ρ) st
 | .pas,ρ,st=>.ok (.nx ρ) st
 | .nev,_,_=>.bad
noncomputable def xSs (Φ:Fn) (n:Nat):List S→Env→Sto→Rs Fl
 | [],ρ,st=>.ok (.nx ρ) st
 | s :: ss,ρ,st=>(xS Φ n s ρ st).bind fun r st1=>match r with | .nx ρ'=>xSs Φ n ss ρ' st1 | r=>.ok r st1
end
noncomputable def run:Rs Fl→Rs U
 | .ok (.rt d) st=>.ok d st
 | .ok (.nx _) st=>.ok .non st
 | _=>.bad
noncomputable def Lr:U→Nat
 | .int i=>i.natAbs
 | _=>0
noncomputable def fuel:List U→Nat
 | []=>1
 | d :: r=>Lr d + fuel r
noncomputable def mk (Φ:Fn) (ir:List S) (np nl:Nat) (ds:List U) (st:Sto):Rs U:=
 if ds.length=np then run (xSs Φ (fuel ds) ir (ds.map some++List.replicate (nl - np) none) st) else .bad
noncomputable def tab (fs:List (List U→Sto→Rs U)) (i:Nat):List U→Sto→Rs U:=fs.getD i fun _ _=>.bad
end Sv
namespace Sv
open PySem PySem.Spec PyProof.Rows L2
open Ev (D aZ bp ai kf j7 eN)
structure Zt where
 K:PySem.W.Frag
 cl:Nat→Addr
noncomputable def LH (C a:Addr) (h:Heap):Prop:=∃ o vs,h.get? a=some o∧o.cls=.ref C∧o.data=.fields vs∧vs[2]?=some .none
noncomputable def SqF (K:PySem.W.Frag) (H:Hp) (a:Addr) (vs:List V):Prop:=(∃ o,H a=some (.frz o (.lst vs)))∨SqL K (fun _=>none) a vs
theorem SqF.sq {K:PySem.W.Frag} {H:Hp} {a:Addr} {vs:List V} (h:SqF K H a vs):SqL K H a vs:=by
 rcases h with ⟨o,h⟩ | ((h | ⟨o,h⟩) | h)
 · exact .inl (.inr ⟨o,h⟩)
 · cases h
 · cases h
 · exact .inr h
mutual
inductive bK (Z:Zt) (m:List Addr) (H:Hp):V→U→Prop where
 | non:bK Z m H .non .non
 | bl {b:Bool}:bK Z m H (.bl b) (.bl b)
 | int {i:Int}:bK Z m H (.int i) (.int i)
 | str {x:Str}:bK Z m H (.str x) (.str x)
 | tup {a:Addr} {vs:List V} {ds:List U} (h:SqT Z.K H a vs) (r:au Z m H vs ds):bK Z m H (.ref a) (.tup ds)
 | loc {a:Addr} {l:Nat} (h:m[l]?=some a):bK Z m H (.ref a) (.loc l)
 | exo {a:Addr} {c:Nat} (h:H a=some (.ext (LH (Z.cl c) a))):bK Z m H (.ref a) (.exo c)
 | kl {a:Addr} {vs:List V} {ds:List U} (h:SqF Z.K H a vs) (r:au Z m H vs ds):bK Z m H (.ref a) (.kl ds)
inductive au (Z:Zt) (m:List Addr) (H:Hp):List V→List U→Prop where
 | nil:au Z m H [] []
 | cons {v:V} {d:U} {vs:List V} {ds:List U} (h:bK Z m H v d) (r:au Z m H vs ds):au Z m H (v :: vs) (d :: ds)
end
structure Go (m:List Addr) (H:Hp) (m':List Addr) (H':Hp):Prop where
 pre:m <+: m'
 kp:∀ b o,H b=some o→(b ∉ m∨∀ xs,o ≠ .lst xs)→H' b=some o
 tr:∀ b,H' b=none→H b=none
 fr:∀ (l:Nat) a,m.length≤l→m'[l]?=some a→H a=none
theorem Go.refl (m:List Addr) (H:Hp):Go m H m H:=⟨List.prefix_refl m,fun _ _ h _=>h,fun _ h=>h,fun l a hl e=>by rw [List.getElem?_eq_none hl] at e; cases e⟩
theorem kL {m m':List Addr} (h:m <+: m') {l:Nat} {a:Addr} (e:m[l]?=some a):m'[l]?=some a:=by
 obtain ⟨r,rfl⟩:=h
 rw [List.getElem?_append_left (List.getElem?_eq_some_iff.mp e).1]; exact e
theorem yJ {m m':List Addr} (h:m <+: m') {l:Nat} {a:Addr} (q:l < m.length) (e:m'[l]?=some a):m[l]?=some a:=by
 have:=kL h (List.getElem?_eq_getElem q)
 rw [e] at this
 rw [List.getElem?_eq_getElem q]; exact this.symm
theorem Go.trans {m m1 m2:List Addr} {H H1 H2:Hp} (g:Go m H m1 H1) (g':Go m1 H1 m2 H2):Go m H m2 H2:=by
 refine ⟨g.pre.trans g'.pre,fun b o h hn=>?_,fun b h=>g.tr b (g'.tr b h),fun l a hl e=>?_⟩
 · refine g'.kp b o (g.kp b o h hn) ?_
   rcases hn with hn | hn
   · refine .inl fun hm=>?_
     obtain ⟨l,hl⟩:=List.getElem?_of_mem hm
     rcases Nat.lt_or_ge l m.length with q | q
     · exact hn (List.mem_of_getElem? (yJ g.pre q hl))
     · rw [g.fr l b q hl] at h; cases h
   · exact .inr hn
 · rcases Nat.lt_or_ge l m1.length with q | q
   · exact g.fr l a hl (yJ g'.pre q e)
   · exact g.tr a (g'.fr l a q e)
section
variable {Z:Zt} {m m':List Addr} {H H':Hp}
theorem goT (g:Go m H m' H') {a:Addr} {xs:List V} (h:SqT Z.K H a xs):SqT Z.K H' a xs:=by
 rcases h with (h | ⟨o,h⟩) | h
 · exact .inl (.inl (g.kp _ _ h (.inr fun _ z=>nomatch z)))
 · exact .inl (.inr ⟨o,g.kp _ _ h (.inr fun _ z=>nomatch z)⟩)
 · exact .inr h
theorem goF (g:Go m H m' H') {a:Addr} {xs:List V} (h:SqF Z.K H a xs):SqF Z.K H' a xs:=by
 rcases h with ⟨o,h⟩ | h
 · exact .inl ⟨o,g.kp _ _ h (.inr fun _ z=>nomatch z)⟩
 · exact .inr h
mutual
theorem bK.mono (g:Go m H m' H'):∀ {v:V} {d:U},bK Z m H v d→bK Z m' H' v d
 | _,_,.non=>.non
 | _,_,.bl=>.bl
 | _,_,.int=>.int
 | _,_,.str=>.str
 | _,_,.tup h r=>.tup (goT g h) (au.mono g r)
 | _,_,.loc h=>.loc (kL g.pre h)
 | _,_,.exo h=>.exo (g.kp _ _ h (.inr fun _ z=>nomatch z))
 | _,_,.kl h r=>.kl (goF g h) (au.mono g r)
theorem au.mono (g:Go m H m' H'):∀ {vs:List V} {ds:List U},au Z m H vs ds→au Z m' H' vs ds
 | _,_,.nil=>.nil
 | _,_,.cons h r=>.cons (bK.mono g h) (au.mono g r)
end
theorem au.length:∀ {vs:List V} {ds:List U},au Z m H vs ds→vs.length=ds.length
 | _,_,.nil=>rfl
 | _,_,.cons _ r=>congrArg (· + 1) r.length
theorem au.get:∀ {vs:List V} {ds:List U} {i:Nat} {d:U},au Z m H vs ds→ds[i]?=some d→∃ v,vs[i]?=some v∧bK Z m H v d
 | _,_,_,_,.nil,e=>by simp at e
 | _,_,0,_,.cons h _,e=>by simp at e; subst e; exact ⟨_,rfl,h⟩
 | _,_,i + 1,d,.cons _ r,e=>by
   obtain ⟨v,h1,h2⟩:=au.get (i:=i) (d:=d) r (by simpa using e)
   exact ⟨v,by simpa using h1,h2⟩
theorem au.append:∀ {xs ys:List V} {ds es:List U},au Z m H xs ds→au Z m H ys es→au Z m H (xs++ys) (ds++es)
 | _,_,_,_,.nil,s=>s
 | _,_,_,_,.cons h r,s=>.cons h (au.append r s)
theorem au.take:∀ {xs:List V} {ds:List U} (n:Nat),au Z m H xs ds→au Z m H (xs.take n) (ds.take n)
 | _,_,0,_=>.nil
 | _,_,_ + 1,.nil=>.nil
 | _,_,n + 1,.cons h r=>.cons h (au.take n r)
theorem au.drop:∀ {xs:List V} {ds:List U} (n:Nat),au Z m H xs ds→au Z m H (xs.drop n) (ds.drop n)
 | _,_,0,r=>r
 | _,_,_ + 1,.nil=>.nil
 | _,_,n + 1,.cons _ r=>au.drop n r
theorem au.set:∀ {xs:List V} {ds:List U} (n:Nat) {v:V} {d:U},au Z m H xs ds→bK Z m H v d→au Z m H (xs.set n v) (ds.set n d)
 | _,_,_,_,_,.nil,_=>.nil
 | _,_,0,_,_,.cons _ r,h=>.cons h r
 | _,_,n + 1,_,_,.cons h r,h'=>.cons h (au.set n r h')
theorem au.erase:∀ {xs:List V} {ds:List U} (n:Nat),au Z m H xs ds→au Z m H (xs.eraseIdx n) (ds.eraseIdx n)
 | _,_,_,.nil=>.nil
 | _,_,0,.cons _ r=>r
 | _,_,n + 1,.cons h r=>.cons h (au.erase n r)
theorem au.dropLast:∀ {xs:List V} {ds:List U},au Z m H xs ds→au Z m H xs.dropLast ds.dropLast
 | _,_,.nil=>.nil
 | _,_,.cons _ .nil=>.nil
 | _,_,.cons h (.cons h' r)=>.cons h (au.dropLast (.cons h' r))
theorem au.insert:∀ {xs:List V} {ds:List U} (n:Nat) {v:V} {d:U},au Z m H xs ds→bK Z m H v d→au Z m H (xs.insertIdx n v) (ds.insertIdx n d)
 | _,_,0,_,_,r,h=>.cons h r
 | _,_,_ + 1,_,_,.nil,_=>.nil
 | _,_,n + 1,_,_,.cons h r,h'=>.cons h (au.insert n r h')
theorem mz {xs:List V} {d:U} (h:au Z m H xs [d]):∃ x,xs=[x]∧bK Z m H x d:=by
 cases h with
 | cons a r=>cases r; exact ⟨_,rfl,a⟩
theorem Ho {xs:List V} {d e:U} (h:au Z m H xs [d,e]):∃ x y,xs=[x,y]∧bK Z m H x d∧bK Z m H y e:=by
 cases h with
 | cons a r=>
   obtain ⟨y,rfl,b⟩:=mz r
   exact ⟨_,_,rfl,a,b⟩
theorem pI {v:V} {i:Int} (h:bK Z m H v (.int i)):v=.int i:=by cases h; rfl
theorem jN {v:V} {b:Bool} (h:bK Z m H v (.bl b)):v=.bl b:=by cases h; rfl
theorem mn {v:V} {l:Nat} (h:bK Z m H v (.loc l)):∃ a,v=.ref a∧m[l]?=some a:=by cases h; exact ⟨_,rfl,by assumption⟩
end
noncomputable def Lay (Z:Zt) (H:Hp) (a:Addr) (fz:Bool) (vs:List V):Prop:=if fz=true then SqL Z.K H a vs∧∃ o,H a=some o else H a=some (.lst vs)
structure R (Z:Zt) (m:List Addr) (st:Sto) (H:Hp):Prop where
 len:m.length=st.length
 inj:∀ (i j:Nat) a,m[i]?=some a→m[j]?=some a→i=j
 obj:∀ (l:Nat) a fz ds,m[l]?=some a→st[l]?=some (fz,ds)→∃ vs,Lay Z H a fz vs∧au Z m H vs ds
theorem Lay.sq {Z:Zt} {H:Hp} {a:Addr} {fz:Bool} {vs:List V} (h:Lay Z H a fz vs):SqL Z.K H a vs:=by
 unfold Lay at h
 split at h
 · exact h.1
 · exact .inl (.inl h)
theorem Lay.tr {Z:Zt} {H:Hp} {a:Addr} {fz:Bool} {vs:List V} (h:Lay Z H a fz vs):∃ o,H a=some o:=by
 unfold Lay at h
 split at h
 · exact h.2
 · exact ⟨_,h⟩
theorem Lay.upd {Z:Zt} {H:Hp} {a p:Addr} {fz:Bool} {vs:List V} {o:HO} (h:Lay Z H a fz vs) (hn:a ≠ p):Lay Z (upd H p o) a fz vs:=by
 unfold Lay at h ⊢
 split at h
 · rename_i q
   rw [if_pos q]
   refine ⟨?_,by rw [aK hn]; exact h.2⟩
   rcases h.1 with (h | ⟨o,h⟩) | h
   · exact .inl (.inl (by rw [aK hn]; exact h))
   · exact .inl (.inr ⟨o,by rw [aK hn]; exact h⟩)
   · exact .inr h
 · rename_i q
   rw [if_neg q,aK hn]; exact h
section
variable {Z:Zt} {m m':List Addr} {H H':Hp} {st:Sto}
theorem R.at (r:R Z m st H) {l:Nat} {fz:Bool} {ds:List U} (e:st[l]?=some (fz,ds)):∃ a vs,m[l]?=some a∧Lay Z H a fz vs∧au Z m H vs ds:=by
 have hl:=(List.getElem?_eq_some_iff.mp e).1
 have hm:l < m.length:=by rw [r.len]; exact hl
 obtain ⟨vs,h1,h2⟩:=r.obj l _ fz ds (List.getElem?_eq_getElem hm) e
 exact ⟨_,vs,List.getElem?_eq_getElem hm,h1,h2⟩
theorem R.loc (r:R Z m st H) {l:Nat} {a:Addr} (e:m[l]?=some a):∃ fz ds vs,st[l]?=some (fz,ds)∧Lay Z H a fz vs∧au Z m H vs ds:=by
 have hl:=(List.getElem?_eq_some_iff.mp e).1
 have hs:l < st.length:=by rw [← r.len]; exact hl
 obtain ⟨vs,h1,h2⟩:=r.obj l a st[l].1 st[l].2 e (List.getElem?_eq_getElem hs)
 exact ⟨_,_,vs,List.getElem?_eq_getElem hs,h1,h2⟩
theorem R.in (r:R Z m st H) {a:Addr} (e:a ∈ m):∃ o,H a=some o:=by
 obtain ⟨l,hl⟩:=List.getElem?_of_mem e
 obtain ⟨_,_,_,_,h,_⟩:=r.loc hl
 exact h.tr
theorem R.out (r:R Z m st H) {p:Addr} (h:H p=none):p ∉ m:=fun z=>by
 obtain ⟨o,q⟩:=r.in z
 rw [h] at q; cases q
theorem Go.new (r:R Z m st H) {p:Addr} {o:HO} (h:H p=none):Go m H m (upd H p o):=by
 refine ⟨List.prefix_refl m,fun b u e _=>?_,fun b e=>?_,fun l a hl e=>by rw [List.getElem?_eq_none hl] at e; cases e⟩
 · rw [aK (aP e h)]; exact e
 · unfold L2.upd at e
   split at e
   · cases e
   · exact e
theorem R.upd (r:R Z m st H) {p:Addr} {o:HO} (h:H p=none):R Z m st (upd H p o):=by
 refine ⟨r.len,r.inj,fun l a fz ds e1 e2=>?_⟩
 obtain ⟨vs,h1,h2⟩:=r.obj l a fz ds e1 e2
 obtain ⟨o,ho⟩:=h1.tr
 exact ⟨vs,h1.upd (aP ho h),h2.mono (Go.new r h)⟩
theorem R.new (r:R Z m st H) {p:Addr} {vs:List V} {ds:List U} (h:H p=none) (hv:au Z m H vs ds) :
   Go m H (m++[p]) (L2.upd H p (.lst vs))∧R Z (m++[p]) (st++[(false,ds)]) (L2.upd H p (.lst vs))∧bK Z (m++[p]) (L2.upd H p (.lst vs)) (.ref p) (.loc st.length):=by
 have hp:=r.out h
 have g:Go m H (m++[p]) (L2.upd H p (.lst vs)):=by
   have g0:=Go.new r (o:=.lst vs) h
   refine ⟨List.prefix_append m [p],g0.kp,g0.tr,fun l a hl e=>?_⟩
   rw [List.getElem?_append_right hl] at e
   have:=List.mem_of_getElem? e
   rw [List.mem_singleton] at this
   rw [this]; exact h
 have hl:(m++[p])[st.length]?=some p:=by rw [← r.len,List.getElem?_append_right (Nat.le_refl _),Nat.sub_self]; rfl
 refine ⟨g,⟨by rw [List.length_append,List.length_append,r.len]; rfl,fun i j a e1 e2=>?_,fun l a fz es e1 e2=>?_⟩,.loc hl⟩
 · have key:∀ (i:Nat) a,(m++[p])[i]?=some a→(m[i]?=some a∧a ≠ p)∨(i=m.length∧a=p):=fun i a e=>by
     rcases Nat.lt_or_ge i m.length with q | q
     · rw [List.getElem?_append_left q] at e
       exact .inl ⟨e,fun z=>hp (z ▸ List.mem_of_getElem? e)⟩
     · have hi:=(List.getElem?_eq_some_iff.mp e).1
       rw [List.length_append,List.length_singleton] at hi
       rw [List.getElem?_append_right q] at e
       have:=List.mem_of_getElem? e
       rw [List.mem_singleton] at this
       exact .inr ⟨by omega,this⟩
   rcases key i a e1 with ⟨q1,q2⟩ | ⟨q1,q2⟩ <;> rcases key j a e2 with ⟨w1,w2⟩ | ⟨w1,w2⟩
   · exact r.inj i j a q1 w1
   · exact absurd w2 q2
   · exact absurd q2 w2
   · rw [q1,w1]
 · rcases Nat.lt_or_ge l m.length with q | q
   · rw [List.getElem?_append_left q] at e1
     rw [List.getElem?_append_left (by rw [← r.len]; exact q)] at e2
     obtain ⟨ws,h1,h2⟩:=r.obj l a fz es e1 e2
     obtain ⟨o,ho⟩:=h1.tr
     exact ⟨ws,h1.upd (aP ho h),h2.mono g⟩
   · have hi:=(List.getElem?_eq_some_iff.mp e1).1
     rw [List.length_append,List.length_singleton] at hi
     obtain rfl:l=m.length:=by omega
     rw [List.getElem?_append_right (Nat.le_refl _),Nat.sub_self] at e1
     rw [r.len,List.getElem?_append_right (Nat.le_refl _),Nat.sub_self] at e2
     cases e1; cases e2
     exact ⟨vs,by unfold Lay; rw [if_neg (by decide)]; exact dM,hv.mono g⟩
theorem R.put (r:R Z m st H) {l:Nat} {a:Addr} {vs:List V} {es ds:List U} (e:m[l]?=some a) (hs:st[l]?=some (false,es)) (hv:au Z m H vs ds) :
   Go m H m (L2.upd H a (.lst vs))∧R Z m (st.set l (false,ds)) (L2.upd H a (.lst vs)):=by
 obtain ⟨us,hu,_⟩:=r.obj l a false es e hs
 have ha:H a=some (.lst us):=by unfold Lay at hu; rw [if_neg (by decide)] at hu; exact hu
 have g:Go m H m (L2.upd H a (.lst vs)):=by
   refine ⟨List.prefix_refl m,fun b u q hn=>?_,fun b q=>?_,fun l a hl e=>by rw [List.getElem?_eq_none hl] at e; cases e⟩
   · by_cases hb:b=a
     · subst hb
       rcases hn with hn | hn
       · exact absurd (List.mem_of_getElem? e) hn
       · rw [ha] at q; cases q; exact absurd rfl (hn us)
     · rw [aK hb]; exact q
   · unfold L2.upd at q
     split at q
     · cases q
     · exact q
 refine ⟨g,⟨by rw [List.length_set]; exact r.len,r.inj,fun k b fz xs e1 e2=>?_⟩⟩
 by_cases hk:k=l
 · subst hk
   rw [e] at e1; cases e1
   rw [List.getElem?_set_self (List.getElem?_eq_some_iff.mp hs).1] at e2
   cases e2
   exact ⟨vs,by unfold Lay; rw [if_neg (by decide)]; exact dM,hv.mono g⟩
 · rw [List.getElem?_set_ne (Ne.symm hk)] at e2
   obtain ⟨ws,h1,h2⟩:=r.obj k b fz xs e1 e2
   exact ⟨ws,h1.upd (fun z=>hk (r.inj k l b e1 (z ▸ e))),h2.mono g⟩
theorem R.side (r:R Z m st H) {p:Addr} {us vs:List V} (h:H p=some (.lst us)) (hp:p ∉ m):R Z m st (L2.upd H p (.lst vs))∧∀ {v:V} {d:U},bK Z m H v d→bK Z m (L2.upd H p (.lst vs)) v d:=by
 have kT:∀ {a:Addr} {xs:List V},SqT Z.K H a xs→SqT Z.K (L2.upd H p (.lst vs)) a xs:=fun {a xs} q=>by
   have ne:∀ {o:HO},H a=some o→(∀ xs,o ≠ .lst xs)→a ≠ p:=fun ho hn z=>by subst z; rw [h] at ho; cases ho; exact hn us rfl
   rcases q with (q | ⟨o,q⟩) | q
   · exact .inl (.inl (by rw [aK (ne q fun _ z=>nomatch z)]; exact q))
   · exact .inl (.inr ⟨o,by rw [aK (ne q fun _ z=>nomatch z)]; exact q⟩)
   · exact .inr q
 have kF:∀ {a:Addr} {xs:List V},SqF Z.K H a xs→SqF Z.K (L2.upd H p (.lst vs)) a xs:=fun {a xs} q=>by
   rcases q with ⟨o,q⟩ | q
   · exact .inl ⟨o,by rw [aK (fun z=>by subst z; rw [h] at q; cases q)]; exact q⟩
   · exact .inr q
 have key:(∀ {v:V} {d:U},bK Z m H v d→bK Z m (L2.upd H p (.lst vs)) v d):=by
   intro v d hd
   refine bK.rec (motive_1:=fun v d _=>bK Z m (L2.upd H p (.lst vs)) v d) (motive_2:=fun ws es _=>au Z m (L2.upd H p (.lst vs)) ws es) .non .bl .int .str (fun h _ ih=>.tup (kT h) ih) (fun h=>.loc h) (fun {a c} q=>.exo ?_) (fun h _ ih=>.kl (kF h) ih) .nil (fun _ _ i1 i2=>.cons i1 i2) hd
   rw [aK (fun z=>by subst z; rw [h] at q; cases q)]; exact q
 have keys:∀ {ws:List V} {es:List U},au Z m H ws es→au Z m (L2.upd H p (.lst vs)) ws es:=by
   intro ws es hd
   refine au.rec (motive_1:=fun v d _=>bK Z m (L2.upd H p (.lst vs)) v d) (motive_2:=fun ws es _=>au Z m (L2.upd H p (.lst vs)) ws es) .non .bl .int .str (fun h _ ih=>.tup (kT h) ih) (fun h=>.loc h) (fun {a c} q=>.exo ?_) (fun h _ ih=>.kl (kF h) ih) .nil (fun _ _ i1 i2=>.cons i1 i2) hd
   rw [aK (fun z=>by subst z; rw [h] at q; cases q)]; exact q
 refine ⟨⟨r.len,r.inj,fun l a fz ds e1 e2=>?_⟩,key⟩
 obtain ⟨ws,h1,h2⟩:=r.obj l a fz ds e1 e2
 exact ⟨ws,h1.upd (fun z=>hp (z ▸ List.mem_of_getElem? e1)),keys h2⟩
end
structure cH (Z:Zt) (m:List Addr) (H:Hp) (σ:L2.St) (ρ:Env):Prop where
 len:σ.length=ρ.length
 get:∀ (i:Nat) (d:U),ρ[i]?=some (some d)→∃ v,σ[i]?=some (some v)∧bK Z m H v d
theorem cH.mono {Z:Zt} {m m':List Addr} {H H':Hp} {σ:L2.St} {ρ:Env} (e:cH Z m H σ ρ) (g:Go m H m' H'):cH Z m' H' σ ρ:=
 ⟨e.len,fun i d h=>let ⟨v,h1,h2⟩:=e.get i d h; ⟨v,h1,h2.mono g⟩⟩
theorem cH.set {Z:Zt} {m:List Addr} {H:Hp} {σ:L2.St} {ρ:Env} (e:cH Z m H σ ρ) {i:Nat} {v:V} {d:U} (h:bK Z m H v d):cH Z m H (σ.set i (some v)) (ρ.set i (some d)):=by
 refine ⟨by rw [List.length_set,List.length_set]; exact e.len,fun j x hx=>?_⟩
 by_cases q:i=j
 · subst q
   by_cases hl:i < ρ.length
   · rw [List.getElem?_set_self hl] at hx
     cases hx
     exact ⟨v,List.getElem?_set_self (by rw [e.len]; exact hl),h⟩
   · rw [List.getElem?_eq_none (by rw [List.length_set]; omega)] at hx; cases hx
 · rw [List.getElem?_set_ne q] at hx
   rw [List.getElem?_set_ne q]
   exact e.get j x hx
noncomputable def post {α:Type} (ex:Nat→Sto→Prop) (k:α→Sto→Prop):Rs α→Prop
 | .ok a st=>k a st
 | .exc c st=>ex c st
 | .bad=>False
theorem aG {α β:Type} {ex:Nat→Sto→Prop} {k:β→Sto→Prop} {x:Rs α} {f:α→Sto→Rs β} (h:post ex k (x.bind f)):post ex (fun a st=>post ex k (f a st)) x:=by
 cases x with
 | ok a st=>exact h
 | exc c st=>exact h
 | bad=>exact h
theorem ay {α:Type} {ex ex':Nat→Sto→Prop} {k k':α→Sto→Prop} {x:Rs α} (h:post ex k x) (he:∀ c st,ex c st→ex' c st) (hk:∀ a st,x=.ok a st→k a st→k' a st):post ex' k' x:=by
 cases x with
 | ok a st=>exact hk a st rfl h
 | exc c st=>exact he c st h
 | bad=>exact h
theorem qa {α:Type} {ex:Nat→Sto→Prop} {k:α→Sto→Prop} {x:Rs α} (h:post ex k x.noX):post (fun _ _=>False) k x:=by
 cases x with
 | ok a st=>exact h
 | exc c st=>exact h
 | bad=>exact h
end Sv
namespace Sv
open PySem PySem.Spec PyProof.Rows L2
open Ev (D aZ bp ai kf j7 eN)
section
variable {Z:Zt} {m:List Addr} {H:Hp} {st:Sto}
theorem mX {f:U→Option D} (ih:∀ {v:V} {d:U} {x:D},bK Z m H v d→f d=some x→Ev.Den Z.K H v x):∀ {vs:List V} {ds:List U} {xs:List D},au Z m H vs ds→uS f ds=some xs→Ev.xm Z.K H vs xs
 | _,_,_,.nil,h=>by cases h; exact .nil
 | _,_,_,.cons a r,h=>by
   rw [uS] at h
   obtain ⟨y,h1,h⟩:=Option.bind_eq_some_iff.mp h
   obtain ⟨ys,h2,rfl⟩:=Option.map_eq_some_iff.mp h
   exact .cons (ih a h1) (mX ih r h2)
theorem jv (r:R Z m st H):∀ (n:Nat) {v:V} {d:U} {x:D},bK Z m H v d→rsv st n d=some x→Ev.Den Z.K H v x
 | n,_,_,_,.non,h=>by cases n <;> (rw [rsv] at h; cases h; exact .non)
 | n,_,_,_,.bl,h=>by cases n <;> (rw [rsv] at h; cases h; exact .bl)
 | n,_,_,_,.int,h=>by cases n <;> (rw [rsv] at h; cases h; exact .int)
 | n,_,_,_,.str,h=>by cases n <;> (rw [rsv] at h; cases h; exact .str)
 | 0,_,_,_,.tup _ _,h=>by rw [rsv] at h <;> first | cases h | (intros; simp_all)
 | n + 1,_,_,_,.tup q rr,h=>by
   rw [rsv] at h
   obtain ⟨xs,h1,rfl⟩:=Option.map_eq_some_iff.mp h
   exact .tup q (mX (fun a b=>jv r n a b) rr h1)
 | 0,_,_,_,.kl _ _,h=>by rw [rsv] at h <;> first | cases h | (intros; simp_all)
 | n + 1,_,_,_,.kl q rr,h=>by
   rw [rsv] at h
   obtain ⟨xs,h1,rfl⟩:=Option.map_eq_some_iff.mp h
   exact .lst q.sq (mX (fun a b=>jv r n a b) rr h1)
 | 0,_,_,_,.loc _,h=>by rw [rsv] at h <;> first | cases h | (intros; simp_all)
 | n + 1,_,_,_,.loc q,h=>by
   rw [rsv] at h
   split at h
   · rename_i xs e
     obtain ⟨ys,h1,rfl⟩:=Option.map_eq_some_iff.mp h
     obtain ⟨a,vs,e1,l1,d1⟩:=r.at e
     rw [q] at e1; cases e1
     exact .lst l1.sq (mX (fun a b=>jv r n a b) d1 h1)
   · cases h
 | n,_,_,_,.exo _,h=>by cases n <;> (rw [rsv] at h <;> first | cases h | (intros; simp_all))
end
noncomputable def kE (Z:Zt) (Ex:Nat→Hp→Prop) (m:List Addr) (H:Hp):Nat→Sto→Prop:=fun c st'=>∀ m' H',Go m H m' H'→R Z m' st' H'→Ex c H'
noncomputable def kV (Z:Zt) (m:List Addr) (H:Hp) (Q:VK):U→Sto→Prop:=fun d st'=>∀ m' H' v,Go m H m' H'→R Z m' st' H'→bK Z m' H' v d→Q v H'
noncomputable def kB (Z:Zt) (m:List Addr) (H:Hp) (Q:Bool→Hp→Prop):Bool→Sto→Prop:=fun b st'=>∀ m' H',Go m H m' H'→R Z m' st' H'→Q b H'
noncomputable def kT (Z:Zt) (m:List Addr) (H:Hp) (Q:Bool→Hp→Prop):U→Sto→Prop:=fun d st'=>∃ b,d=.bl b∧∀ m' H',Go m H m' H'→R Z m' st' H'→Q b H'
noncomputable def kA (Z:Zt) (m:List Addr) (H:Hp) (Q:List V→Hp→Prop):List U→Sto→Prop:=fun ds st'=>∀ m' H' vs,Go m H m' H'→R Z m' st' H'→au Z m' H' vs ds→Q vs H'
theorem kE.sh {Z:Zt} {Ex:Nat→Hp→Prop} {m m1:List Addr} {H H1:Hp} (g:Go m H m1 H1):∀ c st,kE Z Ex m H c st→kE Z Ex m1 H1 c st:=fun _ _ h m' H' g'=>h m' H' (g.trans g')
theorem kV.sh {Z:Zt} {m m1:List Addr} {H H1:Hp} {Q:VK} (g:Go m H m1 H1):∀ d st,kV Z m H Q d st→kV Z m1 H1 Q d st:=fun _ _ h m' H' v g'=>h m' H' v (g.trans g')
theorem kT.sh {Z:Zt} {m m1:List Addr} {H H1:Hp} {Q:Bool→Hp→Prop} (g:Go m H m1 H1):∀ d st,kT Z m H Q d st→kT Z m1 H1 Q d st:=fun _ _ ⟨b,e,h⟩=>⟨b,e,fun m' H' g'=>h m' H' (g.trans g')⟩
noncomputable abbrev Po (Z:Zt) (Ex:Nat→Hp→Prop) (m:List Addr) (H:Hp) (Q:VK) (x:Rs U):Prop:=post (kE Z Ex m H) (kV Z m H Q) x
theorem Po.sh {Z:Zt} {Ex:Nat→Hp→Prop} {m m1:List Addr} {H H1:Hp} {Q:VK} {x:Rs U} (h:Po Z Ex m H Q x) (g:Go m H m1 H1):Po Z Ex m1 H1 Q x:=ay h (kE.sh g) fun a st _=>kV.sh g a st
noncomputable abbrev PoT (Z:Zt) (Ex:Nat→Hp→Prop) (m:List Addr) (H:Hp) (Q:Bool→Hp→Prop) (x:Rs U):Prop:=post (kE Z Ex m H) (kT Z m H Q) x
theorem PoT.sh {Z:Zt} {Ex:Nat→Hp→Prop} {m m1:List Addr} {H H1:Hp} {Q:Bool→Hp→Prop} {x:Rs U} (h:PoT Z Ex m H Q x) (g:Go m H m1 H1):PoT Z Ex m1 H1 Q x:=ay h (kE.sh g) fun a st _=>kT.sh g a st
section
variable (Z:Zt) (Φ:Fn) (Ex:Nat→Hp→Prop)
noncomputable def lE (e:E):TE:=fun σ H Q=>∃ m st ρ,R Z m st H∧cH Z m H σ ρ∧Po Z Ex m H Q (xE Φ e ρ st)
noncomputable def lT (e:E):TT:=fun σ H Q=>∃ m st ρ,R Z m st H∧cH Z m H σ ρ∧PoT Z Ex m H Q (xE Φ e ρ st)
noncomputable def lIf (es:List E):TT:=fun σ H Q=>∃ m st ρ,R Z m st H∧cH Z m H σ ρ∧post (kE Z Ex m H) (kB Z m H Q) (xIf Φ es ρ st)
noncomputable def lEs (es:List E):TA:=fun σ H Q=>∃ m st ρ,R Z m st H∧cH Z m H σ ρ∧post (kE Z Ex m H) (kA Z m H Q) (xEs Φ es ρ st)
noncomputable def lP (e:E):TO:=fun σ H Q=>∃ m st ρ,R Z m st H∧cH Z m H σ ρ∧post (kE Z Ex m H) (fun d st'=>∃ o,xy e d=some o∧∀ m' H',Go m H m' H'→R Z m' st' H'→Q o H') (xE Φ e ρ st)
noncomputable def lG (t:Tg):TG:=fun v σ H Q=>∃ m st ρ d ρ',R Z m st H∧cH Z m H σ ρ∧bK Z m H v d∧iz t d ρ=some ρ'∧∀ σ',cH Z m H σ' ρ'→Q σ' H
noncomputable def Yl (J:L2.It) (q:Sq) (m0:List Addr) (H0:Hp):Prop:=∀ m st H,Go m0 H0 m H→R Z m st H→∀ i,match q.at st i with
 | none=>True
 | some none=>J.stop i H
 | some (some x)=>J.go i H∧∀ v H',J.yld i H v H'→Go m H m H'∧R Z m st H'∧bK Z m H' v x
noncomputable def lI (it:It):TI:=fun σ H Rr=>∃ m st ρ,R Z m st H∧cH Z m H σ ρ∧post (kE Z Ex m H) (fun q st'=>∀ J m' H',Go m H m' H'→R Z m' st' H'→Yl Z J q m' H'→Rr J H') (xIt Φ it ρ st)
noncomputable def spU (F:List U→Sto→Rs U):Sp:=fun vs H Q E=>∃ m st ds,R Z m st H∧au Z m H vs ds∧post (fun c st'=>∀ m' H',Go m H m' H'→R Z m' st' H'→E (.ref (Z.cl c)) none H') (kV Z m H Q) (F ds st)
noncomputable def xk:XK:=fun C _ H'=>∃ c,C=.ref (Z.cl c)∧Ex c H'
end
noncomputable def rO (Z:Zt) (Ex:Nat→Hp→Prop) (g:U→U→Sto→Rs U):R2:=fun x y H Q=>∃ m st a b,R Z m st H∧bK Z m H x a∧bK Z m H y b∧Po Z Ex m H Q (g a b st)
noncomputable def rB (Z:Zt) (Ex:Nat→Hp→Prop) (g:List U→Sto→Rs U):List V→Hp→VK→Prop:=fun xs H Q=>∃ m st ds,R Z m st H∧au Z m H xs ds∧Po Z Ex m H Q (g ds st)
noncomputable abbrev zt (X:Cx) (cl:Nat→Addr):Zt:=⟨X.K,cl⟩
theorem Po.ok {Z:Zt} {Ex:Nat→Hp→Prop} {m:List Addr} {H:Hp} {Q:VK} {d:U} {st:Sto} (h:Po Z Ex m H Q (.ok d st)) (r:R Z m st H) {v:V} (dv:bK Z m H v d):Q v H:=h m H v (Go.refl m H) r dv
theorem Po.new {Z:Zt} {Ex:Nat→Hp→Prop} {m:List Addr} {H:Hp} {Q:VK} {st:Sto} {xs:List U} (h:Po Z Ex m H Q (new st xs)) (r:R Z m st H) {vs:List V} (dv:au Z m H vs xs) {p:Addr} (hp:H p=none):Q (.ref p) (upd H p (.lst vs)):=by
 obtain ⟨g,r',d'⟩:=r.new hp dv
 exact h _ _ _ g r' d'
theorem Po.tup {Z:Zt} {Ex:Nat→Hp→Prop} {m:List Addr} {H:Hp} {Q:VK} {st:Sto} {xs:List U} (h:Po Z Ex m H Q (.ok (.tup xs) st)) (r:R Z m st H) {vs:List V} (dv:au Z m H vs xs) {p:Addr} (hp:H p=none):Q (.ref p) (upd H p (.tup vs)):=
 h m _ _ (Go.new r hp) (r.upd hp) (.tup (.inl (.inl dM)) (dv.mono (Go.new r hp)))
noncomputable def trO:Operator→Option Op2
 | .Add=>some .add
 | .Sub=>some .sub
 | .Mult=>some .mul
 | .FloorDiv=>some .fdiv
 | .Mod=>some .mod
 | .Pow=>some .pow
 | .RShift=>some .shr
 | .LShift=>some .shl
 | .BitAnd=>some .band
 | .BitOr=>some .bor
 | _=>none
noncomputable def trC:CmpOp→Option Cm
 | .Eq=>some .eq
 | .NotEq=>some .ne
 | .Lt=>some .lt
 | .LtE=>some .le
 | .Gt=>some .gt
 | .GtE=>some .ge
 | .NotIn=>some .nin
 | _=>none
section
variable {X:Cx} {cl:Nat→Addr} {Ex:Nat→Hp→Prop}
theorem jr {Z:Zt} {m:List Addr} {H:Hp} {st:Sto} (r:R Z m st H) {v:V} {d:U} {xs:List U} (dv:bK Z m H v d) (e:jC st d=some xs) :
   ∃ p vs,v=.ref p∧SqL Z.K H p vs∧au Z m H vs xs:=by
 cases dv with
 | kl h1 r1=>cases e; exact ⟨_,_,rfl,h1.sq,r1⟩
 | loc h=>
   simp only [jC] at e
   obtain ⟨⟨fz,ys⟩,e1,e2⟩:=Option.map_eq_some_iff.mp e
   cases e2
   obtain ⟨a,vs,f1,f2,f3⟩:=r.at e1
   rw [h] at f1; cases f1
   exact ⟨_,vs,rfl,f2.sq,f3⟩
 | _=>cases e
theorem zO {Z:Zt} {m:List Addr} {H:Hp} {vs:List V} {ds:List U} (h:au Z m H vs ds):∀ k:Nat,au Z m H (List.replicate k vs).flatten (List.replicate k ds).flatten
 | 0=>.nil
 | k + 1=>by rw [List.replicate_succ,List.replicate_succ,List.flatten_cons,List.flatten_cons]; exact h.append (zO h k)
theorem Em:OpR X (binaryOp .Mult) (fun x y H Q=>∃ l k xs,x=.ref l∧y=.int k∧SqL X.K H l xs∧0≤k∧k < 1000∧xs.length * k.toNat≤sizeLine∧∀ p,H p=none→Q (.ref p) (upd H p (.lst (List.replicate k.toNat xs).flatten))):=by
 intro pins s σ H x y v u Q I rx ry h
 obtain ⟨l,k,xs,rfl,rfl,hH,h1,h2,hz,q⟩:=h
 cases rx
 obtain ⟨t,rfl⟩:=ry
 obtain ⟨its,r,pl,_⟩:=I.list hH
 have hl:=r.length
 obtain ⟨⟨cls,dd,data,sl⟩,e,hc,n,hd⟩:=pl.isList
 simp only at hc hd
 subst hc hd
 have hlen:its.toArray.size * k.toNat≤sizeLine:=by rw [List.size_toArray,← hl]; exact hz
 have hcap:¬ its.toArray.size * k.toNat > (2 ^ 63 - 1) / 8:=by
   have:(sizeLine:Nat)≤(2 ^ 63 - 1) / 8:=by decide
   omega
 have hfit:¬ (!Builtin.List.listFitsIndex k)=true:=by
   rw [fitsIndex_both (by omega) (by omega)]
   exact Bool.false_ne_true
 have hlong:¬ Builtin.List.listTooLong (its.toArray.size * k.toNat)=true:=by
   rw [vm hlen]
   exact Bool.false_ne_true
 have hnew:List.foldl (fun x1 x2=>x1++x2) #[] (List.replicate (if its.toArray.isEmpty=true then 0 else k.toNat) its.toArray)=(List.replicate k.toNat its).flatten.toArray:=by
   have f0:∀ m:Nat,List.foldl (fun x1 x2=>x1++x2) #[] (List.replicate m its.toArray)=(List.replicate m its).flatten.toArray:=fun m=>by
     have:=foldl_rep its m []
     rw [List.nil_append] at this
     exact this
   rw [f0]
   cases its with
   | nil=>simp
   | cons a r'=>rw [if_neg (by simp)]
 refine wpAny_binaryOp_repeat_ref (T:="list") (U:="int") (by decide) ⟨_,e,rfl⟩ (fun s'=>typeIs_int s' k t) noFill_list_mul F.fills_int_mul F.slot_int_rmul repeat_list F.slot_int_index.lookup
   (call_meets F.slot_int_rmul (typeIs_int s k t) F.entry_int_rmul (F.args_int_rmul_2 _ _) (lm_int_rmul_list_any k t l its.toArray n dd sl)
     ⟨e,rfl,⟨_,e,rfl⟩,call_meets F.slot_list_mul ⟨_,e,rfl⟩ F.entry_list_mul (F.args_list_mul_2 _ _) (lm_list_mul_any l its.toArray n dd sl k t hfit hcap hlong) ⟨e,?_⟩⟩)
 rw [hnew]
 exact ⟨.ref _,_,I.KW (t':=s.toks) (r.rep k.toNat) (by rw [len_rep,Nat.mul_comm]; exact hz),rfl,q _ I.fresh⟩
theorem gN {f:Value→Value→Sem Value} {C:Int→Int→Prop} {g:Int→Int→V} {h:U→U→Sto→Rs U} {h':Int→Int→U} (o:OpR X f (rI C g))
   (sh:∀ a b st,h a b st=.bad∨∃ i j,a=.int i∧b=.int j∧C i j∧h a b st=.ok (h' i j) st) (sd:∀ Z m H i j,bK Z m H (g i j) (h' i j)):OpR X f (rO (zt X cl) Ex h):=by
 intro pins s σ H x y v u Q I rx ry q
 obtain ⟨m,st,a,b,r,dx,dy,q⟩:=q
 rcases sh a b st with e | ⟨i,j,rfl,rfl,c,e⟩
 · rw [e] at q; exact q.elim
 · rw [e] at q
   have e1:=pI dx
   have e2:=pI dy
   subst e1 e2
   exact o pins s σ H _ _ v u Q I rx ry ⟨i,j,rfl,rfl,c,q.ok r (sd _ _ _ _ _)⟩
theorem Ii:∀ {op:Operator} {o:Op2},trO op=some o→OpR X (binaryOp op) (rO (zt X cl) Ex (ev2 o)):=by
 intro op o h
 cases op <;> simp only [trO.eq_def,Option.some.injEq,reduceCtorEq] at h <;> subst h
 case Add=>
   intro pins s σ H x y v u Q I rx ry q
   obtain ⟨m,st,a,b,r,dx,dy,q⟩:=q
   cases dx <;> first | exact False.elim q | (cases dy <;> first | exact False.elim q | simp only [ev2.eq_def] at q)
   case int.int i j=>exact Ev.EG pins s σ H _ _ v u Q I rx ry ⟨i,j,rfl,rfl,trivial,q.ok r .int⟩
   case str.str x y=>
     split at q
     · rename_i hl
       exact xH pins s σ H _ _ v u Q I rx ry ⟨_,_,rfl,rfl,by have:=Ev.cC; omega,q.ok r .str⟩
     · exact q.elim
   case tup.tup p vs xs h1 r1 p2 vs2 ys h2 r2=>
     split at q
     · rename_i hl
       have l1:=r1.length
       have l2:=r2.length
       refine Fo pins s σ H _ _ v u Q I rx ry ⟨p,p2,vs,vs2,rfl,rfl,h1,h2,?_,?_,fun e=>?_,fun _ z hz=>q.tup r (r1.append r2) hz⟩
       · intro z; rw [z] at l1; exact hl.1 (List.eq_nil_of_length_eq_zero l1.symm)
       · have:=Ev.cC; have:=hl.2; omega
       · subst e
         have:ys=[]:=List.eq_nil_of_length_eq_zero l2.symm
         subst this
         rw [List.append_nil] at q
         exact q.ok r (.tup h1 r1)
     · exact q.elim
   case loc.loc a l h1 a2 l2 h2=>
     split at q
     · rename_i xs ys e1 e2
       split at q
       · rename_i hl
         obtain ⟨b,vs,f1,f2,f3⟩:=r.at e1
         obtain ⟨b2,vs2,g1,g2,g3⟩:=r.at e2
         rw [h1] at f1; cases f1
         rw [h2] at g1; cases g1
         have l1:=f3.length
         have l2:=g3.length
         refine Ev.pL pins s σ H _ _ v u Q I rx ry ⟨_,_,vs,vs2,rfl,rfl,f2.sq,g2.sq,?_,fun z hz=>q.new r (f3.append g3) hz⟩
         have:=Ev.cC
         omega
       · exact q.elim
     · exact q.elim
   case loc.kl a l h1 a2 vs2 ys h2 g3=>
     split at q
     · rename_i xs e1
       split at q
       · rename_i hl
         obtain ⟨b,vs,f1,f2,f3⟩:=r.at e1
         rw [h1] at f1; cases f1
         have l1:=f3.length
         have l2:=g3.length
         refine Ev.pL pins s σ H _ _ v u Q I rx ry ⟨_,_,vs,vs2,rfl,rfl,f2.sq,h2.sq,?_,fun z hz=>q.new r (f3.append g3) hz⟩
         have:=Ev.cC
         omega
       · exact q.elim
     · exact q.elim
   case kl.loc a vs xs h1 f3 a2 l2 h2=>
     split at q
     · rename_i ys e2
       split at q
       · rename_i hl
         obtain ⟨b2,vs2,g1,g2,g3⟩:=r.at e2
         rw [h2] at g1; cases g1
         have l1:=f3.length
         have l2:=g3.length
         refine Ev.pL pins s σ H _ _ v u Q I rx ry ⟨_,_,vs,vs2,rfl,rfl,h1.sq,g2.sq,?_,fun z hz=>q.new r (f3.append g3) hz⟩
         have:=Ev.cC
         omega
       · exact q.elim
     · exact q.elim
   case kl.kl a vs xs h1 f3 a2 vs2 ys h2 g3=>
     split at q
     · rename_i hl
       have l1:=f3.length
       have l2:=g3.length
       refine Ev.pL pins s σ H _ _ v u Q I rx ry ⟨_,_,vs,vs2,rfl,rfl,h1.sq,h2.sq,?_,fun z hz=>q.new r (f3.append g3) hz⟩
       have:=Ev.cC
       omega
     · exact q.elim
 case Sub=>exact gN (h':=fun i j=>.int (i - j)) Ev.D5 (fun a b st=>by cases a <;> first | exact .inl rfl | (cases b <;> first | exact .inl rfl | exact .inr ⟨_,_,rfl,rfl,trivial,rfl⟩)) fun _ _ _ _ _=>.int
 case Mult=>
   intro pins s σ H x y v u Q I rx ry q
   obtain ⟨m,st,a,b,r,dx,dy,q⟩:=q
   cases dy with
   | int=>
     rename_i k
     have key:∀ {xs:List U},(∀ i,a ≠ .int i)→jC st a=some xs→(ev2 .mul a (.int k) st=if 0≤k∧k < 1000∧xs.length * k.toNat < ai then new st (List.replicate k.toNat xs).flatten else .bad):=fun {xs} ha hl=>by
       cases a with
       | int i=>exact absurd rfl (ha i)
       | _=>simp only [ev2.eq_def,hl]
     cases ha:jC st a with
     | some xs=>
       have na:∀ i,a ≠ .int i:=fun i z=>by subst z; cases ha
       rw [key na ha] at q
       split at q
       · rename_i hc
         obtain ⟨p,vs,rfl,h1,h2⟩:=jr r dx ha
         have l1:=h2.length
         exact Em pins s σ H _ _ v u Q I rx ry ⟨_,k,vs,rfl,rfl,h1,hc.1,hc.2.1,by have:=Ev.cC; rw [l1]; omega,fun z hz=>q.new r (zO h2 k.toNat) hz⟩
       · exact q.elim
     | none=>
       cases dx <;> first | (simp only [ev2.eq_def,ha] at q; exact q.elim) | skip
       simp only [ev2.eq_def] at q
       split at q
       · exact Ev.DW pins s σ H _ _ v u Q I rx ry ⟨_,k,rfl,rfl,by assumption,q.ok r .int⟩
       · exact q.elim
   | _=>cases dx <;> exact q.elim
 case FloorDiv=>
   refine gN (h':=fun i j=>.int (i.fdiv j)) Ev.Du (fun a b st=>?_) fun _ _ _ _ _=>.int
   cases a <;> first | exact .inl rfl | (cases b <;> first | exact .inl rfl | skip)
   simp only [ev2.eq_def]
   split
   · exact .inr ⟨_,_,rfl,rfl,by assumption,rfl⟩
   · exact .inl rfl
 case Mod=>
   refine gN (h':=fun i j=>.int (i.fmod j)) DT (fun a b st=>?_) fun _ _ _ _ _=>.int
   cases a <;> first | exact .inl rfl | (cases b <;> first | exact .inl rfl | skip)
   simp only [ev2.eq_def]
   split
   · exact .inr ⟨_,_,rfl,rfl,by assumption,rfl⟩
   · exact .inl rfl
 case Pow=>
   refine gN (h':=fun i j=>.int (i ^ j.toNat)) Iq (fun a b st=>?_) fun _ _ _ _ _=>.int
   cases a <;> first | exact .inl rfl | (cases b <;> first | exact .inl rfl | skip)
   simp only [ev2.eq_def]
   split
   · exact .inr ⟨_,_,rfl,rfl,by assumption,rfl⟩
   · exact .inl rfl
 case RShift=>
   refine gN (h':=fun i j=>.int (i / 2 ^ j.toNat)) Ji (fun a b st=>?_) fun _ _ _ _ _=>.int
   cases a <;> first | exact .inl rfl | (cases b <;> first | exact .inl rfl | skip)
   simp only [ev2.eq_def]
   split
   · exact .inr ⟨_,_,rfl,rfl,by assumption,rfl⟩
   · exact .inl rfl
 case LShift=>
   refine gN (h':=fun i j=>.int (i * 2 ^ j.toNat)) HB (fun a b st=>?_) fun _ _ _ _ _=>.int
   cases a <;> first | exact .inl rfl | (cases b <;> first | exact .inl rfl | skip)
   simp only [ev2.eq_def]
   split
   · exact .inr ⟨_,_,rfl,rfl,by assumption,rfl⟩
   · exact .inl rfl
 case BitAnd=>exact gN (h':=fun i j=>.int (Builtin.bitAnd i j)) Ev.El (fun a b st=>by cases a <;> first | exact .inl rfl | (cases b <;> first | exact .inl rfl | exact .inr ⟨_,_,rfl,rfl,trivial,rfl⟩)) fun _ _ _ _ _=>.int
 case BitOr=>
   have orB:OpR X (binaryOp .BitOr) (rI (fun _ _=>True) fun i j=>.int (Builtin.bitOr i j)):=fun pins s σ H x y v u Q I rx ry ⟨i,j,h1,h2,_,q⟩=>Le pins s σ H x y v u Q I rx ry ⟨i,j,h1,h2,q⟩
   exact gN (h':=fun i j=>.int (Builtin.bitOr i j)) orB (fun a b st=>by cases a <;> first | exact .inl rfl | (cases b <;> first | exact .inl rfl | exact .inr ⟨_,_,rfl,rfl,trivial,rfl⟩)) fun _ _ _ _ _=>.int
theorem vb {Z:Zt} {m:List Addr} {H:Hp}:∀ {vs:List V} {ds:List U} {us:List Value} {l:List Int},au Z m H vs ds→Vals vs us→hJ ds=some l→PyProof.Rows.IntsAre us l
 | _,_,_,_,.nil,r,h=>by cases r; cases h; exact .nil
 | _,_,_,_,.cons d ds,r,h=>by
   cases r with
   | cons ra rr=>
     cases d with
     | int=>
       rw [hJ] at h
       obtain ⟨l',h1,rfl⟩:=Option.map_eq_some_iff.mp h
       obtain ⟨t,rfl⟩:=ra
       exact .cons _ t (vb ds rr h1)
     | _=>cases h
noncomputable def rC (Z:Zt) (Ex:Nat→Hp→Prop) (o:Cm):R2:=rO Z Ex fun a b st=>ofO (evC o a b st) st
theorem oa (hu:X.A.units + 64 < cLine):∀ {op:CmpOp} {o:Cm},trC op=some o→OpR X (compareOp op) (rC (zt X cl) Ex o):=by
 intro op o h
 have ltB:OpR X (compareOp .Lt) (rI (fun _ _=>True) fun i j=>.bl (decide (i < j))):=fun pins s σ H x y v u Q I rx ry ⟨i,j,h1,h2,_,q⟩=>K5 pins s σ H x y v u Q I rx ry ⟨i,j,h1,h2,q⟩
 have leB:OpR X (compareOp .LtE) (rI (fun _ _=>True) fun i j=>.bl (decide (i≤j))):=fun pins s σ H x y v u Q I rx ry ⟨i,j,h1,h2,_,q⟩=>KG pins s σ H x y v u Q I rx ry ⟨i,j,h1,h2,q⟩
 have gtB:OpR X (compareOp .Gt) (rI (fun _ _=>True) fun i j=>.bl (decide (j < i))):=fun pins s σ H x y v u Q I rx ry ⟨i,j,h1,h2,_,q⟩=>Lz pins s σ H x y v u Q I rx ry ⟨i,j,h1,h2,q⟩
 have geB:OpR X (compareOp .GtE) (rI (fun _ _=>True) fun i j=>.bl (decide (j≤i))):=fun pins s σ H x y v u Q I rx ry ⟨i,j,h1,h2,_,q⟩=>J9 pins s σ H x y v u Q I rx ry ⟨i,j,h1,h2,q⟩
 cases op <;> simp only [trC.eq_def,Option.some.injEq,reduceCtorEq] at h <;> subst h
 case Eq=>
   intro pins s σ H x y v u Q I rx ry q
   obtain ⟨m,st,a,b,r,dx,dy,q⟩:=q
   simp only [evC.eq_def] at q
   split at q
   · rename_i a' b' e1 e2
     split at q
     · rename_i c
       obtain ⟨as,r1⟩:=Ev.ki I (nY.refl H) (jv r _ dx e1) rx
       obtain ⟨bs,r2⟩:=Ev.ki I (nY.refl H) (jv r _ dy e2) ry
       exact eq_dataH r1 r2 (Ev.jU c.1) (Ev.jU c.2) hu ⟨.bl _,H,I,by rw [Ev.uq]; rfl,Po.ok q r .bl⟩
     · exact q.elim
   · exact q.elim
 case NotEq=>
   intro pins s σ H x y v u Q I rx ry q
   obtain ⟨m,st,a,b,r,dx,dy,q⟩:=q
   simp only [evC.eq_def] at q
   split at q
   · rename_i a' b' e1 e2
     split at q
     · rename_i c
       obtain ⟨as,r1⟩:=Ev.ki I (nY.refl H) (jv r _ dx e1) rx
       obtain ⟨bs,r2⟩:=Ev.ki I (nY.refl H) (jv r _ dy e2) ry
       exact ne_dataH r1 r2 (Ev.jU c.1) (Ev.jU c.2) hu ⟨.bl _,H,I,by rw [Ev.uq]; rfl,Po.ok q r .bl⟩
     · exact q.elim
   · exact q.elim
 case NotIn=>
   intro pins s σ H x y v u Q I rx ry q
   obtain ⟨m,st,a,b,r,dx,dy,q⟩:=q
   cases dx with
   | int=>
     rename_i i
     have e:evC .nin (.int i) b st=match jC st b with | some ys=>(hJ ys).map fun l=>!l.any (· == i) | none=>none:=rfl
     dsimp only at q
     rw [e] at q
     cases hl:jC st b with
     | none=>rw [hl] at q; exact q.elim
     | some ys=>
       rw [hl] at q
       dsimp only at q
       cases hs:hJ ys with
       | none=>rw [hs] at q; exact q.elim
       | some l=>
         rw [hs] at q
         obtain ⟨p,vs,rfl,h1,h2⟩:=jr r dy hl
         obtain ⟨t,rfl⟩:=rx
         cases ry
         obtain ⟨its,rv,pl,hz⟩:=I.list h1
         exact PyProof.Rows.notin_list_ints pl.isList (vb h2 rv hs) ⟨.bl _,H,I,rfl,Po.ok q r .bl⟩
   | _=>exact q.elim
 case Lt=>exact gN (h':=fun i j=>.bl (decide (i < j))) ltB (fun a b st=>by cases a <;> first | exact .inl rfl | (cases b <;> first | exact .inl rfl | exact .inr ⟨_,_,rfl,rfl,trivial,rfl⟩)) fun _ _ _ _ _=>.bl
 case LtE=>exact gN (h':=fun i j=>.bl (decide (i≤j))) leB (fun a b st=>by cases a <;> first | exact .inl rfl | (cases b <;> first | exact .inl rfl | exact .inr ⟨_,_,rfl,rfl,trivial,rfl⟩)) fun _ _ _ _ _=>.bl
 case Gt=>exact gN (h':=fun i j=>.bl (decide (j < i))) gtB (fun a b st=>by cases a <;> first | exact .inl rfl | (cases b <;> first | exact .inl rfl | exact .inr ⟨_,_,rfl,rfl,trivial,rfl⟩)) fun _ _ _ _ _=>.bl
 case GtE=>exact gN (h':=fun i j=>.bl (decide (j≤i))) geB (fun a b st=>by cases a <;> first | exact .inl rfl | (cases b <;> first | exact .inl rfl | exact .inr ⟨_,_,rfl,rfl,trivial,rfl⟩)) fun _ _ _ _ _=>.bl
end
end Sv
namespace Sv
open PySem PySem.Spec PyProof.Rows L2
open Ev (D aZ bp ai kf j7 eN)
section
variable {X:Cx} {cl:Nat→Addr} {Ex:Nat→Hp→Prop}
theorem pJ {Z:Zt} {m:List Addr} {H:Hp} {st:Sto} (r:R Z m st H) {v:V} {d:U} {xs:List U} (dv:bK Z m H v d) (e:seq? st d=some xs) :
   ∃ p vs,v=.ref p∧(SqL Z.K H p vs∨(SqT Z.K H p vs∧d=.tup xs))∧au Z m H vs xs:=by
 cases dv with
 | tup h1 r1=>cases e; exact ⟨_,_,rfl,.inr ⟨h1,rfl⟩,r1⟩
 | kl h1 r1=>cases e; exact ⟨_,_,rfl,.inl h1.sq,r1⟩
 | loc h=>
   simp only [seq?] at e
   obtain ⟨⟨fz,ys⟩,e1,e2⟩:=Option.map_eq_some_iff.mp e
   cases e2
   obtain ⟨a,vs,f1,f2,f3⟩:=r.at e1
   rw [h] at f1; cases f1
   exact ⟨_,vs,rfl,.inl f2.sq,f3⟩
 | _=>cases e
theorem J3:fN X (.builtin "len") (rB (zt X cl) Ex (evB .len)):=by
 intro pins s σ H xs us Q I r q
 obtain ⟨m,st,ds,rr,dn,q⟩:=q
 match ds,q with
 | [x],q=>
   obtain ⟨v,rfl,dx⟩:=mz dn
   simp only [evB.eq_def] at q
   split at q
   · rename_i ys e
     obtain ⟨p,vs,rfl,h1,h2⟩:=pJ rr dx e
     have hl:=h2.length
     refine uA pins s σ H _ us Q I r ⟨p,vs,rfl,h1.imp id fun z=>z.1,?_⟩
     rw [hl]; exact Po.ok q rr .int
   · exact q.elim
theorem Hw:fN X (.builtin "abs") (rB (zt X cl) Ex (evB .abs)):=by
 intro pins s σ H xs us Q I r q
 obtain ⟨m,st,ds,rr,dn,q⟩:=q
 match ds,q with
 | [.int i],q=>
   obtain ⟨x,rfl,dx⟩:=mz dn
   cases dx
   exact CJ pins s σ H _ us Q I r ⟨i,rfl,Po.ok q rr .int⟩
theorem lK {Z:Zt} {m:List Addr} {H:Hp}:∀ {vs:List V} {ds:List U} {us:List Value} {ns:List Int},au Z m H vs ds→Vals vs us→hJ ds=some ns→∃ xs:List (Int × Tok),us=xs.map (fun p=>Value.int p.1 p.2)∧xs.map (·.1)=ns
 | _,_,_,_,.nil,.nil,h=>by cases h; exact ⟨[],rfl,rfl⟩
 | _,_,_,ns,.cons dv r,.cons rv rs,h=>by
   cases dv with
   | @int i=>
     rw [hJ] at h
     obtain ⟨ns',h1,rfl⟩:=Option.map_eq_some_iff.mp h
     obtain ⟨xs,rfl,rfl⟩:=lK r rs h1
     obtain ⟨t,rfl⟩:=(show ∃ t,_=Value.int i t from rv)
     exact ⟨(i,t) :: xs,rfl,rfl⟩
   | _=>cases h
theorem FK {a M:Int} {as:List Int} (h1:M ∈ a :: as) (h2:∀ x ∈ a :: as,x≤M):xB a as=M:=by
 obtain ⟨z1,z2,z3⟩:=PyProof.Rows.fold_max as a
 have k1:xB a as ∈ a :: as:=by rcases z1 with z | z; exact List.mem_cons.mpr (.inl z); exact List.mem_cons_of_mem _ z
 have k2:M≤xB a as:=by rcases List.mem_cons.mp h1 with rfl | z; exact z2; exact z3 _ z
 exact Int.le_antisymm (h2 _ k1) k2
theorem Hc (hc:X.calm=true):fN X (.builtin "max") (rB (zt X cl) Ex (evB .max)):=by
 intro pins s σ H xs us Q I r q
 obtain ⟨m,st,ds,rr,dn,q⟩:=q
 match ds,q with
 | [.int i,.int j],q=>
   obtain ⟨x,y,rfl,dx,dy⟩:=Ho dn
   cases dx; cases dy
   exact Al hc pins s σ H _ us Q I r ⟨i,j,rfl,Po.ok q rr .int⟩
 | [x],q=>
   obtain ⟨v,rfl,dx⟩:=mz dn
   simp only [evB.eq_def] at q
   split at q
   · rename_i ys e
     obtain ⟨p,vs,rfl,h1,h2⟩:=jr rr dx e
     cases hb:hJ ys with
     | none=>rw [hb] at q; exact q.elim
     | some ns=>
       match ns,hb with
       | [],hb=>rw [hb] at q; exact q.elim
       | a :: as,hb=>
         rw [hb] at q
         obtain ⟨u,rfl,ru⟩:=vals1 r
         cases (show u=Value.ref _ from ru)
         obtain ⟨its,rv,p,hz⟩:=I.list h1
         obtain ⟨xs,rfl,hx⟩:=lK h2 rv hb
         have hlen:0 < xs.length:=by have:=congrArg List.length hx; simp only [List.length_map,List.length_cons] at this; omega
         refine max_intList (xs:=xs.toArray) (I.ok.hd hc) (by have:=p.isList; simpa [intItems] using this) (by simpa using hlen) fun v h' tk hv k=>?_
         obtain ⟨g1,g2⟩:=argBest_gt (numAt xs.toArray) (xs.toArray.size - 1)
         rw [List.size_toArray] at g1 g2 hv
         revert hv g1 g2
         generalize argBest (fun i j=>decide (numAt xs.toArray i > numAt xs.toArray j)) (xs.length - 1)=b
         intro hv g1 g2
         have nat:∀ i (w:Int × Tok),xs[i]?=some w→numAt xs.toArray i=w.1:=fun i w e=>by simp [numAt,e]
         obtain ⟨w,hw⟩:∃ w,xs[b]?=some w:=⟨xs[b]'(by omega),List.getElem?_eq_getElem _⟩
         have ev:v=Value.int w.1 w.2:=by
           simp only [intItems,Array.getElem?_map,List.getElem?_toArray,hw,Option.map_some,Option.some.injEq] at hv
           exact hv.symm
         have em:xB a as=w.1:=by
           refine FK (by rw [← hx]; exact List.mem_map.mpr ⟨w,List.mem_of_getElem? hw,rfl⟩) fun x hx'=>?_
           rw [← hx] at hx'
           obtain ⟨y,hy,rfl⟩:=List.mem_map.mp hx'
           obtain ⟨i,hi,e⟩:=List.getElem_of_mem hy
           have:=g2 i (by omega)
           rw [nat i y (by rw [List.getElem?_eq_getElem hi,e]),nat b w hw] at this
           exact this
         exact ⟨.int (xB a as),H,I.kept k,⟨w.2,by rw [em,ev]⟩,Po.ok q rr .int⟩
   · exact q.elim
theorem Hx (hc:X.calm=true):fN X (.builtin "min") (rB (zt X cl) Ex (evB .min)):=by
 intro pins s σ H xs us Q I r q
 obtain ⟨m,st,ds,rr,dn,q⟩:=q
 match ds,q with
 | [.int i,.int j],q=>
   obtain ⟨x,y,rfl,dx,dy⟩:=Ho dn
   cases dx; cases dy
   exact Au hc pins s σ H _ us Q I r ⟨i,j,rfl,Po.ok q rr .int⟩
theorem GV:fN X (.type "int") (rB (zt X cl) Ex (evB .int)):=by
 intro pins s σ H xs us Q I r q
 obtain ⟨m,st,ds,rr,dn,q⟩:=q
 match ds,q with
 | [.int i],q=>
   obtain ⟨x,rfl,dx⟩:=mz dn
   cases dx
   exact sX pins s σ H _ us Q I r (.inl ⟨i,rfl,Po.ok q rr .int⟩)
 | [.bl b],q=>
   obtain ⟨x,rfl,dx⟩:=mz dn
   cases dx
   exact sX pins s σ H _ us Q I r (.inr ⟨b,rfl,Po.ok q rr .int⟩)
theorem Fe:fN X (.type "list") (rB (zt X cl) Ex (evB .list)):=by
 intro pins s σ H xs us Q I r q
 obtain ⟨m,st,ds,rr,dn,q⟩:=q
 match ds,q with
 | [x],q=>
   obtain ⟨v,rfl,dx⟩:=mz dn
   simp only [evB.eq_def] at q
   split at q
   · rename_i ys e
     obtain ⟨p,vs,rfl,h1,h2⟩:=pJ rr dx e
     exact ua pins s σ H _ us Q I r ⟨p,vs,rfl,h1.imp id fun z=>z.1,fun l hl=>Po.new q rr h2 hl⟩
   · exact q.elim
theorem Dz:fN X (.type "tuple") (rB (zt X cl) Ex (evB .tuple)):=by
 intro pins s σ H xs us Q I r q
 obtain ⟨m,st,ds,rr,dn,q⟩:=q
 match ds,q with
 | [x],q=>
   obtain ⟨v,rfl,dx⟩:=mz dn
   simp only [evB.eq_def] at q
   split at q
   · rename_i ys e
     obtain ⟨p,vs,rfl,h1,h2⟩:=pJ rr dx e
     rcases h1 with h1 | ⟨h1,_⟩
     · exact lj pins s σ H _ us Q I r ⟨p,vs,rfl,.inl ⟨h1,fun l hl=>Po.tup q rr h2 hl⟩⟩
     · exact lj pins s σ H _ us Q I r ⟨p,vs,rfl,.inr ⟨h1,Po.ok q rr (.tup h1 h2)⟩⟩
   · exact q.elim
theorem qw {Z:Zt} {m:List Addr} {H:Hp}:∀ {vs:List V} {ds:List U} {us:List Value} {b:Bool},au Z m H vs ds→Vals vs us→allB ds=some b→(∀ u ∈ us,∃ c,u=Value.bool c)∧b=(List.range us.length).all fun i=>us[i]? == some (Value.bool true)
 | _,_,_,b,.nil,.nil,h=>by
   cases h
   exact ⟨fun u hu=>absurd hu (by simp),rfl⟩
 | _,_,_,b,.cons dv r,.cons rv rs,h=>by
   cases dv with
   | @bl c=>
     rw [allB] at h
     obtain ⟨b',h1,h2⟩:=Option.map_eq_some_iff.mp h
     obtain ⟨i1,i2⟩:=qw r rs h1
     obtain rfl:=(show _=Value.bool c from rv)
     refine ⟨fun u hu=>?_,?_⟩
     · rcases List.mem_cons.mp hu with rfl | hu
       · exact ⟨c,rfl⟩
       · exact i1 u hu
     · rw [← h2,i2,List.length_cons,List.range_succ_eq_map,List.all_cons,List.all_map]
       congr 1
       cases c <;> rfl
   | _=>cases h
theorem Jw (hc:X.calm=true):fN X (.builtin "all") (rB (zt X cl) Ex (evB .all)):=by
 intro pins s σ H xs us Q I r q
 obtain ⟨m,st,ds,rr,dn,q⟩:=q
 match ds,q with
 | [x],q=>
   obtain ⟨v,rfl,dx⟩:=mz dn
   simp only [evB.eq_def] at q
   split at q
   · rename_i ys e
     obtain ⟨p,vs,rfl,h1,h2⟩:=jr rr dx e
     cases hb:allB ys with
     | none=>rw [hb] at q; exact q.elim
     | some b=>
       rw [hb] at q
       obtain ⟨u,rfl,ru⟩:=vals1 r
       cases (show u=Value.ref _ from ru)
       obtain ⟨its,rv,p,hz⟩:=I.list h1
       obtain ⟨i1,i2⟩:=qw h2 rv hb
       have lt:∀ a,s.heap.IsList a its.toArray→a ≠ s.heap.objs.size:=fun a ⟨o,z,_⟩=>Nat.ne_of_lt (Heap.lt_size z)
       refine call_all_walk (wpAny_pyIter_list p.isList ⟨_,_,_,_,_,_,fun i=>its[i]? == some (Value.bool true),rfl,Walks.list (A:=X.A.in1) (I.ok.hd hc) _ _ (lt _ p.isList) its.toArray,⟨⟨_,Heap.get?_push_size _ rfl,rfl,rfl⟩,?_⟩,fun i v s' Q' E' hP hQ=>?_,fun h' tk hk=>?_⟩)
       · obtain ⟨o,z1,z2⟩:=p.isList
         exact ⟨o,Heap.get?_push_of_some _ z1,z2⟩
       · have hP':its[i]?=some v:=by simpa using hP
         obtain ⟨c,rfl⟩:=i1 v (List.mem_of_getElem? hP')
         refine wpAny_truthy_bool ?_
         have hQ:Q' (its[i]? == some (Value.bool true)) s':=hQ
         rw [hP'] at hQ
         cases c
         · exact hQ
         · exact hQ
       · have e1:its.toArray.size=its.length:=List.size_toArray
         refine ⟨.bl b,H,I.kept (t':=tk) fun b' o z=>?_,?_,Po.ok q rr .bl⟩
         · refine hk b' o (fun hm=>?_) (Heap.get?_push_of_some _ z)
           have:b'=s.heap.objs.size:=by simpa using hm
           exact absurd (Heap.lt_size z) (by rw [this]; exact Nat.lt_irrefl _)
         · rw [e1,← i2]; rfl
   · exact q.elim
theorem vv:∀ (xs:List (Int × Tok)),preSum (numAt xs.toArray) xs.length=(xs.map Prod.fst).sum:=fun xs=>by
 rw [preSum_eq,List.take_of_length_le (by simp)]
theorem Jl (hc:X.calm=true):fN X (.builtin "sum") (rB (zt X cl) Ex (evB .sum)):=by
 intro pins s σ H xs us Q I r q
 obtain ⟨m,st,ds,rr,dn,q⟩:=q
 match ds,q with
 | [x],q=>
   obtain ⟨v,rfl,dx⟩:=mz dn
   simp only [evB.eq_def] at q
   split at q
   · rename_i ys e
     obtain ⟨p,vs,rfl,h1,h2⟩:=jr rr dx e
     cases hb:hJ ys with
     | none=>rw [hb] at q; exact q.elim
     | some ns=>
       rw [hb] at q
       obtain ⟨u,rfl,ru⟩:=vals1 r
       cases (show u=Value.ref _ from ru)
       obtain ⟨its,rv,p,hz⟩:=I.list h1
       obtain ⟨xs,rfl,hx⟩:=lK h2 rv hb
       refine sum_intListG (xs:=xs.toArray) (I.ok.hd hc) (by have:=p.isList; simpa [intItems] using this) fun h' tk t' k=>?_
       refine ⟨.int ns.sum,H,I.kept k,⟨t',?_⟩,Po.ok q rr .int⟩
       rw [List.size_toArray,vv,hx]
   · exact q.elim
noncomputable def aW:List Str:=["len","abs","max","min","int","bool","list","tuple","str","isinstance","range","enumerate","all","zip","sorted","sum","any","reversed"]
noncomputable def trT (x:Str):Option Ty:=
 if x = "int" then some .int else if x = "bool" then some .bool else if x = "tuple" then some .tuple else if x = "list" then some .list else if x = "str" then some .str else none
noncomputable def trB (x:Str):Option Bi:=
 if x = "len" then some .len else if x = "abs" then some .abs else if x = "max" then some .max else if x = "min" then some .min else if x = "int" then some .int else
 if x = "list" then some .list else if x = "tuple" then some .tuple else if x = "all" then some .all else if x = "sum" then some .sum else none
theorem KQ (hc:X.calm=true) (hb:∀ x ∈ aW,X.mg x=none) {x:Str} {b:Bi} {p pos:Pos} {e:Expr} {es:List Expr} {t:TA} (h:trB x=some b) (hg:Gl X x) (ha:PA X (e :: es) t)
   (he:starEach (e :: es) X.env=(false,eval e X.env) :: starEach es X.env) (hpl:(backTo pos (starEach es X.env)).any (·.1)=false):PE X (.Call (.Name x p) (e :: es) [] pos) (tCB (rB (zt X cl) Ex (evB b)) t):=by
 unfold trB at h
 split at h
 · rename_i q; subst q; cases h
   exact iE J3 hg (hb _ (by simp [aW])) (by decide +kernel) ha (by decide) (by decide) he hpl
 split at h
 · rename_i q; subst q; cases h
   exact iE Hw hg (hb _ (by simp [aW])) (by decide +kernel) ha (by decide) (by decide) he hpl
 split at h
 · rename_i q; subst q; cases h
   exact iE (Hc hc) hg (hb _ (by simp [aW])) (by decide +kernel) ha (by decide) (by decide) he hpl
 split at h
 · rename_i q; subst q; cases h
   exact iE (Hx hc) hg (hb _ (by simp [aW])) (by decide +kernel) ha (by decide) (by decide) he hpl
 split at h
 · rename_i q; subst q; cases h
   exact nQ GV hg (hb _ (by simp [aW])) (by decide +kernel) ha (by decide) (by decide) he hpl
 split at h
 · rename_i q; subst q; cases h
   exact nQ Fe hg (hb _ (by simp [aW])) (by decide +kernel) ha (by decide) (by decide) he hpl
 split at h
 · rename_i q; subst q; cases h
   exact nQ Dz hg (hb _ (by simp [aW])) (by decide +kernel) ha (by decide) (by decide) he hpl
 split at h
 · rename_i q; subst q; cases h
   exact iE (Jw hc) hg (hb _ (by simp [aW])) (by decide +kernel) ha (by decide) (by decide) he hpl
 split at h
 · rename_i q; subst q; cases h
   exact iE (Jl hc) hg (hb _ (by simp [aW])) (by decide +kernel) ha (by decide) (by decide) he hpl
 cases h
theorem yM:typeLookup (Value.type "list_reverseiterator") (Str.ofString "__len__")=pure none:=by with_unfolding_all rfl
theorem Bn:typeLookup (Value.type "list_reverseiterator") (Str.ofString "__length_hint__")=pure (some (.builtin "list_reverseiterator.__length_hint__")):=by with_unfolding_all rfl
theorem D1:isSubtype (.type "list_reverseiterator") (.type "list_reverseiterator")=pure true:=by with_unfolding_all rfl
theorem zV:splitId "list_reverseiterator.__length_hint__" = some ("list_reverseiterator","__length_hint__"):=by with_unfolding_all rfl
theorem vG {prog:Program} {w:World} {A:Around} {E:Value→Shared→Prop} {s:Shared} {I:Addr} {Q:Bool→Shared→Prop}
   (ht:s.TypeIs (.ref I) "list_reverseiterator") (q:Q false s):wpAny (model prog w) A (Builtin.List.listLengthHint (.ref I)) Q E s:=by
 unfold Builtin.List.listLengthHint
 refine wpAny_bind (wpAny_specialOf ht yM ?_)
 dsimp only
 refine wpAny_bind (wpAny_specialOf ht Bn ?_)
 simp only [zV]
 refine wpAny_bind (wpAny_isInstance ht D1 ?_)
 simp only [Bool.not_true,Bool.false_eq_true,if_false]
 exact wpAny_pure q
theorem sf {prog:Program} {w:World} {A:Around} {E:Value→Shared→Prop} {s:Shared} {I l:Addr} {items:Array Value} {Q:Value→Shared→Prop}
   (hh:A.handled=none) (hl:l ≠ I) (hi:s.heap.IsRevIter I l (items.size - 1)) (hs:s.heap.IsList l items) (hz:items.size≤sizeLine)
   (q:∀ (h':Heap) (tk:Nat) (acc:Array Value) (c:Nat),(∀ b o,b ≠ I→s.heap.get? b=some o→h'.get? b=some o)→h'.get? s.heap.objs.size=some { cls:=.type "list",data:=.seq acc c } →
     ItemsOf (fun i v=>items[items.size - 1 - i]?=some v) acc items.size→Q (.ref s.heap.objs.size) { s with heap:=h',toks:=tk }) :
   wpAny (model prog w) A (call (.type "list") [.ref I]) Q E s:=by
 refine callType_codes F.called_list (F.typeCall_list_1 _) F.entry_list_init (code_list_new _ (Q₁:=fun v s₁=>v=.ref s.heap.objs.size∧s₁={ s with heap:=s.heap.push { cls:=.type "list",data:=.seq #[] } }) ⟨rfl,rfl⟩) ?_
 rintro obj s₁ ⟨rfl,rfl⟩
 have hS:(s.heap.push { cls:=.type "list",data:=.seq #[] }).get? s.heap.objs.size=some { cls:=.type "list",data:=.seq #[] }:=Heap.get?_push_size _ rfl
 refine ⟨⟨_,hS,rfl⟩,F.args_list_init_2 _ _,?_⟩
 have hIlt:I < s.heap.objs.size:=by obtain ⟨o,z,_⟩:=hi; exact Heap.lt_size z
 have hllt:l < s.heap.objs.size:=by obtain ⟨o,z,_⟩:=hs; exact Heap.lt_size z
 have hIne:I ≠ s.heap.objs.size:=Nat.ne_of_lt hIlt
 have hlne:l ≠ s.heap.objs.size:=Nat.ne_of_lt hllt
 unfold Builtin.«list.__init__»
 simp only [List.isEmpty_nil,Bool.not_true,Bool.false_eq_true,if_false,List.length_cons,List.length_nil,gt_iff_lt,Nat.lt_irrefl]
 refine wpAny_bind ?_
 unfold Builtin.List.listItems
 refine wpAny_bind (wpAny_seqItems hS rfl ?_)
 refine wpAny_pure ?_
 have fin:∀ (h2:Heap) (c:Nat),(∀ b o,b ≠ s.heap.objs.size→s.heap.get? b=some o→h2.get? b=some o)→h2.get? s.heap.objs.size=some { cls:=.type "list",data:=.seq #[] c } →
     codeAny (model prog w) A.in1 (Code.builtin "list.extend.loop" { pos:=[Value.ref s.heap.objs.size,Value.ref I,Value.none] }) (wants (fun r s₂=>r=Value.none∧Q (Value.ref s.heap.objs.size) s₂) E) { s with heap:=h2 }:=by
   intro h2 c kp e
   have W:=(Walks.listRev (prog:=prog) (w:=w) (A:=A.in1.in1) hh I l hl items).toS
   refine codeAny_extend_loopS W hz s.heap.objs.size ?_ _ (items.size - 0) 0 _ _ c rfl (Nat.zero_le _) ⟨Nat.zero_le _,?_,?_⟩ e (ItemsOf.nil _) fun s' acc' c' mv e' it=>?_
   · intro z
     simp only [List.mem_cons,List.not_mem_nil,or_false] at z
     rcases z with z | z
     · exact hIne z.symm
     · exact hlne z.symm
   · obtain ⟨o,z1,z2,z3⟩:=hi
     exact ⟨o,kp _ _ hIne z1,z2,by rw [z3]; simp⟩
   · obtain ⟨o,z1,z2⟩:=hs
     exact ⟨o,kp _ _ hlne z1,z2⟩
   · rw [mv.eq_with]
     refine ⟨rfl,q _ _ _ _ (fun b o hb z=>?_) e' it⟩
     have hb2:b ≠ s.heap.objs.size:=Nat.ne_of_lt (Heap.lt_size z)
     exact mv.heap b o (by simp only [List.mem_cons,List.not_mem_nil,or_false]; exact fun y=>y.elim hb2 hb) (kp _ _ hb2 z)
 have kp0:∀ b o,b ≠ s.heap.objs.size→s.heap.get? b=some o→(s.heap.push { cls:=.type "list",data:=.seq #[] }).get? b=some o:=fun b o _ z=>Heap.get?_push_of_some _ z
 unfold Builtin.List.listUpdate
 refine wpAny_bind (wpAny_updateSeq hS rfl ?_)
 refine wpAny_bind (wpAny_letGo ?_)
 have hS1:∃ c,((s.heap.push { cls:=.type "list",data:=.seq #[] }).update s.heap.objs.size (Obj.mapSeq fun x=>#[])).get? s.heap.objs.size=some { cls:=.type "list",data:=.seq #[] c }:=⟨_,Heap.get?_update_self _ hS rfl⟩
 have kp1:∀ b o,b ≠ s.heap.objs.size→s.heap.get? b=some o→((s.heap.push { cls:=.type "list",data:=.seq #[] }).update s.heap.objs.size (Obj.mapSeq fun x=>#[])).get? b=some o:=fun b o hb z=>by rw [Heap.get?_update_other _ _ (Ne.symm hb)]; exact kp0 b o hb z
 revert kp1 hS1
 generalize (s.heap.push { cls:=.type "list",data:=.seq #[] }).update s.heap.objs.size (Obj.mapSeq fun x=>#[])=h1
 rintro ⟨c1,hS1⟩ kp1
 have hi1:h1.IsRevIter I l (items.size - 1):=by obtain ⟨o,z1,z2⟩:=hi; exact ⟨o,kp1 _ _ hIne z1,z2⟩
 have ht:Shared.TypeIs { s with heap:=h1 } (.ref I) "list_reverseiterator":=by obtain ⟨o,z1,z2,_⟩:=hi1; exact ⟨o,z1,z2⟩
 unfold Builtin.List.listExtendWith
 refine wpAny_bind (wpAny_typeOf ht ?_)
 have nsame:(Builtin.List.listSameRef (Value.ref s.heap.objs.size) (Value.ref I) || Value.type "list_reverseiterator" == Value.type "list" || Value.type "list_reverseiterator" == Value.type "tuple")=false:=by
   have:Builtin.List.listSameRef (Value.ref s.heap.objs.size) (Value.ref I)=false:=by
     unfold Builtin.List.listSameRef
     simp [Ne.symm hIne]
   rw [this]; rfl
 rw [if_neg (by rw [nsame]; decide)]
 refine wpAny_bind (wpAny_pyIter_revIter hi1 ?_)
 refine wpAny_bind (wpAny_holding (vG ht ?_))
 have go:∀ (h2:Heap) (c:Nat),(∀ b o,b ≠ s.heap.objs.size→s.heap.get? b=some o→h2.get? b=some o)→h2.get? s.heap.objs.size=some { cls:=.type "list",data:=.seq #[] c } →
     wpAny (model prog w) A.in1.in1 (again (Code.builtin "list.extend.loop" { pos:=[Value.ref s.heap.objs.size,Value.ref I,Value.none] })) (fun fin s'=>
     match fin with
     | Fin.done f=>wants (fun r s₂=>r=Value.none∧Q (Value.ref s.heap.objs.size) s₂) E (Except.ok f) s'
     | Fin.again c'=>
       c'.quiet=true ∧
         codeAny (model prog w) A.in1 c' (wants (fun r s₂=>r=Value.none∧Q (Value.ref s.heap.objs.size) s₂) E) s')
     (fun e s'=>wants (fun r s₂=>r=Value.none∧Q (Value.ref s.heap.objs.size) s₂) E (Except.error e) s') { s with heap:=h2 }:=fun h2 c k1 k2=>
   wpAny_pure ⟨plainId_quiet F.plain_extend_loop _,fin h2 c k1 k2⟩
 refine wpAny_ite_split (fun _=>?_) (fun _=>go h1 c1 kp1 hS1)
 refine wpAny_bind (wpAny_rule ?_)
 refine wpAny_bind ?_
 unfold Builtin.List.listTouch Builtin.List.listUpdate
 refine wpAny_bind (wpAny_updateSeq hS1 rfl ?_)
 have hS2:=Heap.get?_update_self (Obj.mapSeq fun x=>x.push Value.none) hS1 rfl
 refine wpAny_updateSeq hS2 rfl ?_
 exact go _ _ (fun b o hb z=>by rw [Heap.get?_update_other _ _ (Ne.symm hb),Heap.get?_update_other _ _ (Ne.symm hb)]; exact kp1 b o hb z) (Heap.get?_update_self _ hS2 rfl)
theorem yQ {Z:Zt} {m:List Addr} {H:Hp}:∀ {vs:List V} {ds:List U},au Z m H vs ds→au Z m H vs.reverse ds.reverse
 | _,_,.nil=>.nil
 | _,_,.cons a r=>by
   rw [List.reverse_cons,List.reverse_cons]
   exact (yQ r).append (.cons a .nil)
theorem HU (hc:X.calm=true) {pins:List (Addr × Obj)} {s:Shared} {σ:L2.St} {H:Hp} {xs:List V} {us:List Value} {Q:VK} (I:Inv X pins σ H s) (r:Vals xs us) (q:rB (zt X cl) Ex (evB .rev) xs H Q) :
   wpAny (model X.prog X.w) X.A (call (.type "reversed") us) (fun v s2=>wpAny (model X.prog X.w) X.A (call (.type "list") [v]) (EP X pins σ Q) X.xe s2) X.xe s:=by
 obtain ⟨m,st,ds,rr,dn,q⟩:=q
 match ds,q with
 | [x],q=>
   obtain ⟨v,rfl,dx⟩:=mz dn
   simp only [evB.eq_def] at q
   split at q
   · rename_i ys e
     obtain ⟨p,vs,rfl,h1,h2⟩:=jr rr dx e
     obtain ⟨u,rfl,ru⟩:=vals1 r
     cases (show u=Value.ref _ from ru)
     obtain ⟨its,rv,pl,hz⟩:=I.list h1
     have hlen:=rv.length
     have ne:p ≠ s.heap.objs.size:=by obtain ⟨o,z,_⟩:=pl.isList; exact Nat.ne_of_lt (Heap.lt_size z)
     refine call_reversed_list pl.isList ?_
     have hp:=Heap.get?_push_size s.heap (o:=revObj p (its.toArray.size - 1)) rfl
     refine sf (items:=its.toArray) (I.ok.hd hc) ne ⟨_,hp,rfl,rfl⟩ ?_ (by rw [List.size_toArray,← hlen]; exact hz) fun h' tk acc c kp e' it=>?_
     · obtain ⟨o,z1,z2⟩:=pl.isList
       exact ⟨o,Heap.get?_push_of_some _ z1,z2⟩
     · have ea:acc=its.reverse.toArray:=by
         obtain ⟨i1,i2⟩:=it
         have i1:acc.size=its.length:=i1.trans List.size_toArray
         refine Array.ext (by rw [i1]; simp) fun i hi1 hi2=>?_
         have hi3:i < its.length:=i1 ▸ hi1
         have this:its.toArray[its.toArray.size - 1 - i]?=some acc[i]:=i2 i acc[i] (Array.getElem?_eq_getElem _)
         rw [List.getElem?_toArray,List.size_toArray,List.getElem?_eq_getElem (by omega)] at this
         have hb:i < its.reverse.length:=by rw [List.length_reverse]; exact hi3
         exact (Option.some.inj this).symm.trans ((List.getElem_reverse hb).symm.trans (List.getElem_toArray (xs:=its.reverse) hi2).symm)
       subst ea
       have kq:∀ b u,s.heap.get? b=some u→h'.get? b=some u:=fun b u z=>kp b u (Nat.ne_of_lt (Heap.lt_size z)) (Heap.get?_push_of_some _ z)
       refine ⟨.ref (s.heap.push (revObj p (its.toArray.size - 1))).objs.size,upd H (s.heap.push (revObj p (its.toArray.size - 1))).objs.size (.lst vs.reverse),I.laid (t':=tk) kq ?_ (show iA X.prog X.w _ h' _ (.lst vs.reverse) from ⟨by rw [List.length_reverse]; exact hz,its.reverse,c,rv.reverse,e'⟩),rfl,Po.new q rr (yQ h2) ?_⟩
       · rw [Heap.size_push]; exact Nat.le_succ _
       · exact I.hok.fresh (by rw [Heap.size_push]; exact Nat.le_succ _)
   · exact q.elim
theorem IL (hc:X.calm=true) (hb:∀ x ∈ aW,X.mg x=none) {p p2 pos pos2:Pos} {e:Expr} {t:TA} (hg:Gl X "list") (hg2:Gl X "reversed") (ha:PA X [e] t)
   (he:starEach [e] X.env=(false,eval e X.env) :: starEach [] X.env):PE X (.Call (.Name "list" p) [.Call (.Name "reversed" p2) [e] [] pos2] [] pos) (tCB (rB (zt X cl) Ex (evB .rev)) t):=by
 intro pins s σ H Q I h
 refine wpAny_Call_Name_kw (jQ I hg (hb _ (by simp [aW])) (by decide +kernel:bootBuiltins "list" = some (.type "list")) ?_ (by decide) (by decide))
 refine PyProof.Rows.callWith_type1 ?_ rfl rfl
 refine Calls.spliced_cons ?_
 refine wpAny_Call_Name_kw (jQ I hg2 (hb _ (by simp [aW])) (by decide +kernel:bootBuiltins "reversed" = some (.type "reversed")) ?_ (by decide) (by decide))
 refine PyProof.Rows.callWith_type1 (thn (ha pos2 pins s σ H _ I h) fun us s1 ⟨vs,H1,I1,r1,q1⟩=>?_) he rfl
 exact thn (HU hc I1 r1 q1) fun v s2 z=>Calls.spliced_nil z
noncomputable def tyN:Ty→String
 | .int=>"int" | .bool=>"bool" | .tuple=>"tuple" | .list=>"list" | .str=>"str"
noncomputable def Kp:U→String
 | .non=>"NoneType" | .bl _=>"bool" | .int _=>"int" | .str _=>"str" | .tup _=>"tuple" | .loc _=>"list" | .kl _=>"list" | .exo _=>"NoneType"
theorem HC (K:PySem.W.Frag) (d:U) (t:Ty):PySem.W.kitOne K (.type (Kp d)) (.type (tyN t))=some (A5 t d):=by
 cases d <;> cases t <;> (show PySem.W.kitOne K (.type _) (.type _)=some _) <;> with_unfolding_all rfl
theorem Jk (t:Ty):fN X (.builtin "isinstance") (fun xs H Q=>∃ m st x d,R (zt X cl) m st H∧xs=[x,.ty (tyN t)]∧bK (zt X cl) m H x d∧(∀ c,d ≠ .exo c)∧Q (.bl (A5 t d)) H):=by
 intro pins s σ H xs us Q I r q
 obtain ⟨m,st,x,d,rr,rfl,dx,ne,q⟩:=q
 obtain ⟨u,w,rfl,rx,rt⟩:=vals2 r
 cases (show w=Value.type (tyN t) from rt)
 have kt:=HC X.K d t
 have fin:∀ tk,EP X pins σ Q (.bool (A5 t d)) { s with toks:=tk }:=fun tk=>⟨.bl _,H,I.tok _,rfl,q⟩
 cases dx with
 | non=>cases (show u=Value.none from rx); exact PySem.W.kia_one PySem.W.kitx_none I.kIn True.intro kt (fun z=>nomatch z) fin
 | bl=>cases (show u=Value.bool _ from rx); exact PySem.W.kia_one PySem.W.kitx_bool I.kIn True.intro kt (fun z=>nomatch z) fin
 | int=>obtain ⟨t',z⟩:=(show ∃ t,u=Value.int _ t from rx); cases z; exact PySem.W.kia_one PySem.W.kitx_int I.kIn True.intro kt (fun z=>nomatch z) fin
 | str=>obtain ⟨t',z⟩:=(show ∃ t,u=Value.str _ t from rx); cases z; exact PySem.W.kia_one PySem.W.kitx_str I.kIn True.intro kt (fun z=>nomatch z) fin
 | tup h r1=>
   cases (show u=Value.ref _ from rx)
   obtain ⟨its,_,⟨o,h1,h2,_⟩,_⟩:=I.tuple h
   exact PySem.W.kia_one PySem.W.kitx_tuple I.kIn ⟨o,h1,h2⟩ kt (fun z=>nomatch z) fin
 | loc h=>
   cases (show u=Value.ref _ from rx)
   obtain ⟨fz,ds,vs,_,ly,_⟩:=rr.loc h
   obtain ⟨its,_,⟨o,n,h1,h2,_⟩,_⟩:=I.list ly.sq
   exact PySem.W.kia_one PySem.W.kitx_list I.kIn ⟨o,h1,h2⟩ kt (fun z=>nomatch z) fin
 | exo h=>exact absurd rfl (ne _)
 | kl h r1=>
   cases (show u=Value.ref _ from rx)
   obtain ⟨its,_,⟨o,n,h1,h2,_⟩,_⟩:=I.list h.sq
   exact PySem.W.kia_one PySem.W.kitx_list I.kIn ⟨o,h1,h2⟩ kt (fun z=>nomatch z) fin
theorem Kq (hb:∀ x ∈ aW,X.mg x=none) {x:Str} {t:Ty} {p:Pos} (h:trT x=some t) (hg:Gl X x):PE X (.Name x p) (tC (.ty (tyN t))):=by
 unfold trT at h
 split at h
 · rename_i q; subst q; cases h
   exact mM (u:=.type "int") hg (hb _ (by simp [aW])) (by decide +kernel) rfl (by decide) (by decide)
 split at h
 · rename_i q; subst q; cases h
   exact mM (u:=.type "bool") hg (hb _ (by simp [aW])) (by decide +kernel) rfl (by decide) (by decide)
 split at h
 · rename_i q; subst q; cases h
   exact mM (u:=.type "tuple") hg (hb _ (by simp [aW])) (by decide +kernel) rfl (by decide) (by decide)
 split at h
 · rename_i q; subst q; cases h
   exact mM (u:=.type "list") hg (hb _ (by simp [aW])) (by decide +kernel) rfl (by decide) (by decide)
 split at h
 · rename_i q; subst q; cases h
   exact mM (u:=.type "str") hg (hb _ (by simp [aW])) (by decide +kernel) rfl (by decide) (by decide)
 cases h
theorem DF {Z:Zt} {m:List Addr} {H:Hp} {vs:List V} {ds:List U} {i:Int} {d:U} (r:au Z m H vs ds) (h:atI ds i=some d):∃ v,atI vs i=some v∧bK Z m H v d:=by
 unfold atI at h ⊢
 rw [r.length]
 cases e:ixN ds.length i with
 | none=>rw [e] at h; cases h
 | some j=>
   rw [e] at h
   obtain ⟨v,h1,h2⟩:=r.get (show ds[j]?=some d from h)
   exact ⟨v,h1,h2⟩
theorem IQ:IxR X (rO (zt X cl) Ex evI):=by
 intro value slice pins s σ H x y v u Q I rx ry q hs
 obtain ⟨m,st,a,b,r,dx,dy,q⟩:=q
 unfold evI at q
 split at q
 · rename_i xs i e
   cases dy
   split at q
   · rename_i z hz
     obtain ⟨p,vs,rfl,h1,h2⟩:=pJ r dx e
     obtain ⟨w,g1,g2⟩:=DF h2 hz
     rcases h1 with h1 | ⟨h1,_⟩
     · exact EY value slice pins s σ H _ _ v u Q I rx ry ⟨p,vs,_,w,rfl,rfl,h1,g1,Po.ok q r g2⟩ hs
     · exact Ip value slice pins s σ H _ _ v u Q I rx ry ⟨p,vs,_,w,rfl,rfl,h1,g1,Po.ok q r g2⟩ hs
   · exact q.elim
 · exact q.elim
theorem Eb {Z:Zt} {m:List Addr} {H:Hp} {vs:List V} {ds:List U} (r:au Z m H vs ds) (lo hi:Option Int):au Z m H (AM vs lo hi) (Dc ds lo hi):=by
 unfold AM Dc
 rw [r.length]
 exact (r.drop _).take _
theorem FF:JQ X (fun o i v H Q=>∃ m st a b c,R (zt X cl) m st H∧bK (zt X cl) m H o a∧bK (zt X cl) m H i b∧bK (zt X cl) m H v c∧∃ st',evP a b c st=some st'∧∀ H',Go m H m H'→R (zt X cl) m st' H'→Q H'):=by
 intro pins s σ H o i v ov iv u Q I ro ri rv q
 obtain ⟨m,st,a,b,c,r,dA,db,dc,st',e,q⟩:=q
 unfold evP at e
 split at e
 · rename_i l j
   split at e
   · rename_i xs hs
     obtain ⟨k,hk,rfl⟩:=Option.map_eq_some_iff.mp e
     obtain ⟨p,rfl,hp⟩:=mn dA
     cases db
     obtain ⟨p',vs,f1,f2,f3⟩:=r.at hs
     rw [hp] at f1; cases f1
     unfold Lay at f2
     rw [if_neg (by decide)] at f2
     have hl:=f3.length
     obtain ⟨g,r'⟩:=r.put hp hs (f3.set k dc)
     exact set_list pins s σ H _ _ v ov iv u Q I ro ri rv ⟨_,vs,_,k,rfl,rfl,f2,by rw [hl]; exact hk,q _ g r'⟩
   · cases e
 · cases e
end
end Sv
namespace Sv
open PySem PySem.Spec PyProof.Rows L2
open Ev (D aZ bp ai kf j7 eN slot slot_get iY j1 kC mh jy fX ky bc oq mY PTs mE oJ BH Ite)
structure Tr where
 sc:Scope
 N:List Str
 F:List Str
 cap:List Nat
 cst:List (Str × Int)
noncomputable def iI (T:Tr) (scope:Scope):List (Option Nat):=(ky scope).map fun x=>if (x,NameKind.free) ∈ scope.names then slot T.N x else none
noncomputable def qy (T:Tr) (scope:Scope):Tr:=
 { sc:=jy scope T.sc,N:=ky scope++[("#" : Str)],F:=T.F,cap:=(List.range (iI T scope).length).filter fun j=>((iI T scope).getD j none).isSome,cst:=T.cst }
noncomputable def zk (T:Tr) (scope:Scope):Bool:=
 scope.names.all (fun p=>p.2 != .free || (slot T.N p.1).isSome) && scope.kind == .function && T.sc.kind == .function && scope.names.all (fun p=>p.2 != .local || scope.names.lookup p.1 == some .local) && scope.names.all (fun p=>p.2 != .free || T.sc.names.lookup p.1 == some .cell)
   && scope.names.all (fun p=>p.2 != .free || (!decide ((p.1,NameKind.cell) ∈ scope.names) && !decide ((p.1,NameKind.local) ∈ scope.names))) && decide (ky scope++[("#" : Str)]).Nodup
   && !iY (jy scope T.sc) ("#" : Str) && (match (jy scope T.sc).names.lookup ("#" : Str) with | some .free=>false | _=>true)
noncomputable def trV (T:Tr) (x:Str):Option Nat:=
 if iY T.sc x=true∧(x == ("__debug__" : Str))=false∧(x == ("__classdict__" : Str))=false then slot T.N x else none
noncomputable def eS (T:Tr):List Expr→Option (List Nat)
 | []=>some []
 | .Name x _ :: r=>(trV T x).bind fun i=>if i ∈ T.cap then none else (eS T r).bind fun is=>some (i :: is)
 | _=>none
noncomputable def ma (T:Tr):Expr→Option Tg
 | .Name x _=>(trV T x).bind fun i=>if i ∈ T.cap then none else some (.nm i)
 | .Tuple es _ _=>(eS T es).bind fun is=>some (.tp is)
 | _=>none
noncomputable def vX:Expr→It→Bool
 | .Tuple _ _ _,_=>true
 | _,.enu _=>false
 | _,.zip _ _=>false
 | _,_=>true
noncomputable def Hr (T:Tr) (x:Str):Expr→List Expr→Option Expr
 | .Call (.Name y _) [a] [] _,[]=>if x = "list" ∧ y = "reversed" ∧ j1 T.sc y=true∧slot T.F y=none then some a else none
 | _,_=>none
theorem Di {T:Tr} {x:Str} {e a:Expr} {es:List Expr} (h:Hr T x e es=some a):x = "list" ∧ es=[]∧j1 T.sc "reversed" = true∧∃ p q,e=.Call (.Name "reversed" p) [a] [] q:=by
 unfold Hr at h
 split at h
 · split at h
   · rename_i hh
     obtain ⟨rfl,rfl,h3,_⟩:=hh
     cases h
     exact ⟨rfl,rfl,h3,_,_,rfl⟩
   · cases h
 · cases h
noncomputable def stE (T:Tr) (rE:Tr→Expr→Option E) (rEs:List Expr→Option (List E)) (rP:Option Expr→Option E) (rI:Expr→Option It) (rIf:Tr→List Expr→Option (List E)):Expr→Option E
 | .Name x _=>if j1 T.sc x=true∧(x == ("__debug__" : Str))=false then (T.cst.lookup x).bind fun i=>some (.cI i) else (trV T x).bind fun i=>some (.var i)
 | .Constant (.int i) _ _=>some (.cI i)
 | .Constant (.bool b) _ _=>some (.cB b)
 | .Constant .none _ _=>some .cN
 | .Constant (.str x) _ _=>some (.cS x)
 | .BinOp a o b _=>(trO o).bind fun o'=>(rE T a).bind fun a'=>(rE T b).bind fun b'=>some (.op o' a' b')
 | .UnaryOp .USub a _=>(rE T a).bind fun a'=>some (.neg a')
 | .UnaryOp .Not a _=>(rE T a).bind fun a'=>some (.not a')
 | .Compare a [o] [b] _=>
   match o,b with
   | .Is,.Constant (.bool c) _ _=>(rE T a).bind fun a'=>some (.isB false a' c)
   | .IsNot,.Constant (.bool c) _ _=>(rE T a).bind fun a'=>some (.isB true a' c)
   | .Is,.Constant .none _ _=>(rE T a).bind fun a'=>some (.isN false a')
   | .IsNot,.Constant .none _ _=>(rE T a).bind fun a'=>some (.isN true a')
   | o,b=>(trC o).bind fun o'=>(rE T a).bind fun a'=>(rE T b).bind fun b'=>some (.cmp o' a' b')
 | .Compare a [o,p] [b,c] _=>(trC o).bind fun o'=>(trC p).bind fun p'=>(rE T a).bind fun a'=>(rE T b).bind fun b'=>(rE T c).bind fun c'=>some (.chain o' p' a' b' c')
 | .BoolOp _ [a] _=>rE T a
 | .BoolOp .And (a :: b :: r) pos=>(rE T a).bind fun a'=>(rE T (.BoolOp .And (b :: r) pos)).bind fun b'=>some (.and a' b')
 | .BoolOp .Or (a :: b :: r) pos=>(rE T a).bind fun a'=>(rE T (.BoolOp .Or (b :: r) pos)).bind fun b'=>some (.or a' b')
 | .IfExp c a b _=>(rE T c).bind fun c'=>(rE T a).bind fun a'=>(rE T b).bind fun b'=>some (.ite c' a' b')
 | .Tuple es _ _=>(rEs es).bind fun es'=>some (.tup es')
 | .List es _=>(rEs es).bind fun es'=>some (.lst es')
 | .Subscript a (.Slice lo hi none _) _=>(rE T a).bind fun a'=>(rP lo).bind fun l'=>(rP hi).bind fun h'=>some (.sl a' l' h')
 | .Subscript _ (.Slice _ _ (some _) _) _=>none
 | .Subscript a i _=>(rE T a).bind fun a'=>(rE T i).bind fun i'=>some (.ix a' i')
 | .Call (.Name x _) (e :: es) [] _=>
   if j1 T.sc x=true∧(x == ("__debug__" : Str))=false then
     match slot T.F x with
     | some k=>(rEs (e :: es)).bind fun es'=>some (.call k es')
     | none=>
       if x = "isinstance" then
         match es with
         | [.Name t _]=>if j1 T.sc t=true then (trT t).bind fun ty=>(rE T e).bind fun a'=>some (.isi a' ty) else none
         | _=>none
       else match Hr T x e es with
         | some a=>(rEs [a]).bind fun es'=>some (.bi .rev es')
         | none=>(trB x).bind fun b=>(rEs (e :: es)).bind fun es'=>some (.bi b es')
   else none
 | .ListComp elt [⟨tg,iter,ifs,asy⟩] scope _=>
   if asy=0∧zk T scope=true then
     (ma (qy T scope) tg).bind fun t=>(rI iter).bind fun it=>(rIf (qy T scope) ifs).bind fun fs=>(rE (qy T scope) elt).bind fun e=>
       if vX tg it=true then some (.comp (iI T scope) t it fs e) else none
   else none
 | _=>none
mutual
noncomputable def trE (T:Tr):Nat→Expr→Option E
 | 0,_=>none
 | n + 1,e=>stE T (fun T' e'=>trE T' n e') (fun es=>jz T n es) (fun o=>trP T n o) (fun i=>trI T n i) (fun T' es=>vM T' n es) e
noncomputable def jz (T:Tr):Nat→List Expr→Option (List E)
 | 0,_=>none
 | _ + 1,[]=>some []
 | n + 1,e :: es=>(trE T n e).bind fun e'=>(jz T n es).bind fun es'=>some (e' :: es')
noncomputable def trP (T:Tr):Nat→Option Expr→Option E
 | _,none=>some .cN
 | 0,some _=>none
 | n + 1,some e=>(trE T n e).bind fun e'=>match e' with | .cN=>none | e'=>some e'
noncomputable def vM (T:Tr):Nat→List Expr→Option (List E)
 | _,[]=>some []
 | 0,_ :: _=>none
 | n + 1,[c]=>(trE T n c).bind fun c'=>some [c']
 | _ + 1,_ :: _ :: _=>none
noncomputable def trI (T:Tr):Nat→Expr→Option It
 | 0,_=>none
 | n + 1,.Call (.Name x p) (a :: r) [] pos=>
   if x = "range" ∧ j1 T.sc x=true∧slot T.F x=none then
     match r with
     | []=>(trE T n a).bind fun e=>some (.rng e)
     | [b]=>(trE T n a).bind fun e=>(trE T n b).bind fun e2=>some (.rng2 e e2)
     | _=>none
   else if x = "enumerate" ∧ j1 T.sc x=true∧slot T.F x=none then
     match r with
     | []=>(trE T n a).bind fun e=>some (.enu e)
     | _=>none
   else if x = "zip" ∧ j1 T.sc x=true∧slot T.F x=none then
     match r with
     | [b]=>(trE T n a).bind fun e=>(trE T n b).bind fun e2=>some (.zip e e2)
     | _=>none
   else (trE T n (.Call (.Name x p) (a :: r) [] pos)).bind fun e=>some (.seq e)
 | n + 1,it=>(trE T n it).bind fun e=>some (.seq e)
end
theorem ef {T:Tr} {n:Nat} {e:Expr} {e':E} (h:trE T n e=some e') (es:List Expr) (env:PySem.Env):starEach (e :: es) env=(false,eval e env) :: starEach es env:=by
 cases n with
 | zero=>rw [trE] at h; cases h
 | succ n=>
   cases e with
   | Starred v p=>exact cc (show (none:Option E)=some _ from h)
   | _=>rfl
theorem qm {T:Tr}:∀ {n:Nat} {es:List Expr} {es':List E},jz T n es=some es'→∀ (env:PySem.Env) (pos:Pos),(backTo pos (starEach es env)).any (·.1)=false
 | 0,_,_,h,_,_=>by rw [jz] at h; cases h
 | _ + 1,[],_,_,_,_=>rfl
 | n + 1,e :: es,_,h,env,pos=>by
   simp only [jz,Option.bind_eq_some_iff] at h
   obtain ⟨e',h1,es',h2,_⟩:=h
   rw [ef h1]
   have q:=qm h2 env pos
   unfold backTo at q ⊢
   rw [List.map_cons,List.any_cons]
   exact q
theorem fE {T:Tr} {n:Nat} {e:Expr} {es:List Expr} {es':List E} (h:jz T n (e :: es)=some es') (env:PySem.Env):starEach (e :: es) env=(false,eval e env) :: starEach es env:=by
 cases n with
 | zero=>rw [jz] at h; cases h
 | succ n=>
   simp only [jz,Option.bind_eq_some_iff,Option.some.injEq] at h
   obtain ⟨z1,z2,_⟩:=h
   exact ef z2 es env
theorem gh {T:Tr} {n:Nat} {e:Expr} {es:List Expr} {es':List E} (h:jz T n (e :: es)=some es') (env:PySem.Env) (pos:Pos):(backTo pos (starEach es env)).any (·.1)=false:=by
 cases n with
 | zero=>rw [jz] at h; cases h
 | succ n=>
   simp only [jz,Option.bind_eq_some_iff,Option.some.injEq] at h
   obtain ⟨z1,z2,z3,z4,_⟩:=h
   exact qm z4 env pos
theorem Hj {T:Tr} {n:Nat} {e:Expr} {e':E} (h:trE T n e=some e') (env:PySem.Env) (x:Value):foldedSetIterable e env x=pure x:=by
 cases n with
 | zero=>rw [trE] at h; cases h
 | succ n=>
   cases e with
   | Set a b c=>exact cc (show (none:Option E)=some _ from h)
   | _=>rfl
structure Cal (P:Program) (w:World) (K:PySem.W.Frag) (mg:Str→Option Value) (base:Heap) (CX:CXT) (cl:Nat→Addr) (k:Nat) (x:Str) (F:List U→Sto→Rs U):Prop where
 ex:∃ (f:Addr) (fd:FuncData) (ps:List Str) (G:List U→Sto→Rs U),
   cK P w K mg base CX k f fd ps (spU ⟨K,cl⟩ G)∧mg x=some (.ref f)∧PySem.W.keepIn K (.ref f)=true∧∀ n:Nat,∃ (dvs:List V) (dus:List Value) (dds:List U),Binds K fd ps dus∧Vals dvs dus∧(∀ m H,au ⟨K,cl⟩ m H dvs dds)∧∀ ds st,ds.length=n→F ds st=G (ds++dds) st
structure Bg (X:Cx) (T:Tr) (Φ:Fn) (cl:Nat→Addr) (CX:CXT) (Ex:Nat→Hp→Prop) (k:Nat):Prop where
 sc:X.env.scope=T.sc
 nm:X.N=T.N
 nd:T.N.Nodup
 calm:X.calm=true
 room:j2 k X.A
 blt:∀ x ∈ aW,X.mg x=none
 cal:∀ i x,T.F[i]?=some x→Cal X.prog X.w X.K X.mg X.base CX cl k x (Φ i)
 fn:∀ (i:Nat) (x:Str),T.N[i]?=some x→i ∉ T.cap→T.sc.names.lookup x=some .cell→X.fn x=true
 cst:∀ x i,T.cst.lookup x=some i→∃ t,X.mg x=some (.int i t)
 cxn:∀ outer H s E e s',(∀ C a H',¬ E C a H')→¬ CX outer H s E e s'
 pas:Passes CX X (xk (zt X cl) Ex)
section
variable {X:Cx} {T:Tr} {Φ:Fn} {cl:Nat→Addr} {CX:CXT} {Ex:Nat→Hp→Prop} {k:Nat}
theorem PE.wk {e:Expr} {t t':TE} (h:PE X e t) (f:∀ σ H Q,t' σ H Q→t σ H Q):PE X e t':=fun pins s σ H Q I q=>h pins s σ H Q I (f σ H Q q)
theorem PT.wk {e:Expr} {t t':TT} (h:PT X e t) (f:∀ σ H Q,t' σ H Q→t σ H Q):PT X e t':=fun pins s σ H Q I q=>h pins s σ H Q I (f σ H Q q)
theorem PW.wk {e:Expr} {t t':TT} (h:PW X e t) (f:∀ σ H Q,t' σ H Q→t σ H Q):PW X e t':=fun wh pins s σ H Q I q=>h wh pins s σ H Q I (f σ H Q q)
theorem PA.wk {e:List Expr} {t t':TA} (h:PA X e t) (f:∀ σ H Q,t' σ H Q→t σ H Q):PA X e t':=fun p pins s σ H Q I q=>h p pins s σ H Q I (f σ H Q q)
theorem PO.wk {e:Option Expr} {t t':TO} (h:PO X e t) (f:∀ σ H Q,t' σ H Q→t σ H Q):PO X e t':=fun pins s σ H Q I q=>h pins s σ H Q I (f σ H Q q)
theorem PI.wk {tg e:Expr} {t t':TI} (h:PI X tg e t) (f:∀ σ H Q,t' σ H Q→t σ H Q):PI X tg e t':=fun pins s σ H Q I q=>h pins s σ H Q I (f σ H Q q)
theorem PG.wk {e:Expr} {t t':TG} (h:PG X e t) (f:∀ v σ H Q,t' v σ H Q→t v σ H Q):PG X e t':=fun pins s σ H v u Q I r q=>h pins s σ H v u Q I r (f v σ H Q q)
theorem PGs.wk {e:List Expr} {t t':TGs} (h:PGs X e t) (f:∀ v σ H Q,t' v σ H Q→t v σ H Q):PGs X e t':=fun pins s σ H v u Q I r q=>h pins s σ H v u Q I r (f v σ H Q q)
theorem Kv {tg it:Expr} {w1 w2:TI} (h1:PI X tg it w1) (h2:PI X tg it w2):PI X tg it (fun σ H R=>w1 σ H R∨w2 σ H R):=by
 intro pins s σ H R I h
 rcases h with h | h
 · exact h1 pins s σ H R I h
 · exact h2 pins s σ H R I h
theorem Bg.gl (B:Bg X T Φ cl CX Ex k) {x:Str} (h:j1 T.sc x=true):Gl X x:=by
 show X.env.scope.names.lookup x=_
 rw [B.sc]; exact mh h
theorem Bg.vis (B:Bg X T Φ cl CX Ex k) {x:Str} {i:Nat} (h:trV T x=some i):X.N[i]?=some x∧(X.env.scope.names.lookup x=some .local∨X.env.scope.names.lookup x=some .cell)∧(x == ("__debug__" : Str))=false∧(x == ("__classdict__" : Str))=false:=by
 unfold trV at h
 split at h
 · rename_i c
   exact ⟨by rw [B.nm]; exact slot_get h,by rw [B.sc]; exact kC c.1,c.2.1,c.2.2⟩
 · cases h
theorem Bg.sto (B:Bg X T Φ cl CX Ex k) {x:Str} {i:Nat} (h:trV T x=some i) (hc:i ∉ T.cap):X.fn x=true∨X.env.scope.names.lookup x=some .local:=by
 have hv:=(B.vis h).2.1
 rcases hv with z | z
 · exact .inr z
 · refine .inl (B.fn i x ?_ hc (by rw [← B.sc]; exact z))
   unfold trV at h
   split at h
   · exact slot_get h
   · cases h
theorem y4 (B:Bg X T Φ cl CX Ex k):∀ {es:List Expr} {is:List Nat},eS T es=some is→PGs X es (fun vs σ H Q=>∃ m st ρ ds ρ',R (zt X cl) m st H∧cH (zt X cl) m H σ ρ∧au (zt X cl) m H vs ds∧lZ is ds ρ=some ρ'∧∀ σ',cH (zt X cl) m H σ' ρ'→Q σ' H) ∧
   (assignEach es X.env).length=is.length∧(assignEach es X.env).findIdx? (·.1)=none
 | [],is,h=>by
   cases h
   refine ⟨PGs.wk Fj ?_,rfl,rfl⟩
   rintro vs σ H Q ⟨m,st,ρ,ds,ρ',r,en,dn,e,q⟩
   cases dn with
   | nil=>cases e; exact ⟨rfl,q _ en⟩
   | cons _ _=>cases e
 | .Name x p :: es,is,h=>by
   simp only [eS,Option.bind_eq_some_iff] at h
   obtain ⟨i,h1,h2⟩:=h
   split at h2
   · cases h2
   · rename_i na
     simp only [Option.bind_eq_some_iff,Option.some.injEq] at h2
     obtain ⟨is',h3,rfl⟩:=h2
     obtain ⟨v1,v2,v3,v4⟩:=B.vis h1
     have nd:X.N.Nodup:=by rw [B.nm]; exact B.nd
     obtain ⟨ih,il,ix⟩:=y4 B h3
     refine ⟨PGs.wk (B1 (zw nd v1 v2 (B.sto h1 na)) ih rfl) ?_,?_,?_⟩
     · rintro vs σ H Q ⟨m,st,ρ,ds,ρ',r,en,dn,e,q⟩
       cases dn with
       | nil=>cases e
       | cons d1 dr=>
         rw [lZ] at e
         exact ⟨_,_,rfl,m,st,_,_,ρ',r,en.set d1,dr,e,q⟩
     · show (assignEach es X.env).length + 1=_
       rw [il]; rfl
     · show List.findIdx? _ ((false,_) :: assignEach es X.env)=none
       rw [List.findIdx?_cons,ix]; rfl
 | .BoolOp _ _ _ :: _,_,h=>by simp [eS] at h
 | .NamedExpr _ _ _ :: _,_,h=>by simp [eS] at h
 | .BinOp _ _ _ _ :: _,_,h=>by simp [eS] at h
 | .UnaryOp _ _ _ :: _,_,h=>by simp [eS] at h
 | .Lambda _ _ _ _ :: _,_,h=>by simp [eS] at h
 | .IfExp _ _ _ _ :: _,_,h=>by simp [eS] at h
 | .Dict _ _ _ :: _,_,h=>by simp [eS] at h
 | .Set _ _ _ :: _,_,h=>by simp [eS] at h
 | .ListComp _ _ _ _ :: _,_,h=>by simp [eS] at h
 | .SetComp _ _ _ _ :: _,_,h=>by simp [eS] at h
 | .DictComp _ _ _ _ _ :: _,_,h=>by simp [eS] at h
 | .GeneratorExp _ _ _ _ :: _,_,h=>by simp [eS] at h
 | .Await _ _ :: _,_,h=>by simp [eS] at h
 | .Yield _ _ :: _,_,h=>by simp [eS] at h
 | .YieldFrom _ _ :: _,_,h=>by simp [eS] at h
 | .Compare _ _ _ _ :: _,_,h=>by simp [eS] at h
 | .Call _ _ _ _ :: _,_,h=>by simp [eS] at h
 | .FormattedValue _ _ _ _ :: _,_,h=>by simp [eS] at h
 | .JoinedStr _ _ :: _,_,h=>by simp [eS] at h
 | .Constant _ _ _ :: _,_,h=>by simp [eS] at h
 | .Attribute _ _ _ :: _,_,h=>by simp [eS] at h
 | .Subscript _ _ _ :: _,_,h=>by simp [eS] at h
 | .Starred _ _ :: _,_,h=>by simp [eS] at h
 | .List _ _ :: _,_,h=>by simp [eS] at h
 | .Tuple _ _ _ :: _,_,h=>by simp [eS] at h
 | .Slice _ _ _ _ :: _,_,h=>by simp [eS] at h
theorem u3:∀ {is:List Nat} {ds:List U} {ρ ρ':Env},lZ is ds ρ=some ρ'→ds.length=is.length
 | [],[],_,_,_=>rfl
 | _ :: _,_ :: _,_,_,h=>by rw [lZ] at h; exact congrArg (· + 1) (u3 h)
theorem pP (B:Bg X T Φ cl CX Ex k) {tg:Expr} {t:Tg} (h:ma T tg=some t):PG X tg (lG (zt X cl) t):=by
 have nd:X.N.Nodup:=by rw [B.nm]; exact B.nd
 cases tg <;> simp only [ma,Option.bind_eq_some_iff,reduceCtorEq] at h
 case Name x p=>
   obtain ⟨i,h1,h2⟩:=h
   split at h2
   · cases h2
   · rename_i na
     cases h2
     obtain ⟨v1,v2,v3,v4⟩:=B.vis h1
     refine PG.wk (zw nd v1 v2 (B.sto h1 na)) ?_
     rintro v σ H Q ⟨m,st,ρ,d,ρ',r,en,dv,e,q⟩
     rw [iz] at e; cases e
     exact q _ (en.set dv)
 case Tuple es a b=>
   obtain ⟨is,h1,h2⟩:=h
   cases h2
   obtain ⟨g1,g2,g3⟩:=y4 B h1
   refine PG.wk (IS B.calm g1 g2 g3) ?_
   rintro v σ H Q ⟨m,st,ρ,d,ρ',r,en,dv,e,q⟩
   cases dv with
   | tup h1 r1=>
     rw [iz] at e
     exact ⟨_,_,rfl,h1,by rw [r1.length,u3 e],m,st,ρ,_,ρ',r,en,r1,e,q⟩
   | _=>cases e
theorem DQ {Z:Zt} {m0:List Addr} {H0:Hp} {a:Addr} {l:Nat} (h:m0[l]?=some a):Yl Z (Itl Z.K a) (.lst l) m0 H0:=by
 intro m st H g r i
 obtain ⟨fz,ds,vs,e,ly,dn⟩:=r.loc (kL g.pre h)
 simp only [Sq.at,e,Option.map_some]
 have hl:=dn.length
 cases hx:ds[i]? with
 | none=>exact ⟨vs,ly.sq,by have:=List.getElem?_eq_none_iff.mp hx; omega⟩
 | some x=>
   obtain ⟨v,hv,dv⟩:=dn.get hx
   refine ⟨⟨vs,v,ly.sq,hv⟩,fun y H' ⟨e1,e2⟩=>?_⟩
   subst e1
   have ex:y=v:=by have:=e2 vs ly.sq; rw [hv] at this; exact (Option.some.inj this).symm
   subst ex
   exact ⟨Go.refl m _,r,dv⟩
theorem HV {Z:Zt} {m0:List Addr} {H0:Hp} {a:Addr} {vs:List V} {xs:List U} (h:SqT Z.K H0 a vs) (d:au Z m0 H0 vs xs):Yl Z (Itt Z.K a) (.vals xs) m0 H0:=by
 intro m st H g r i
 have h':=goT g h
 have d':=d.mono g
 have hl:=d'.length
 simp only [Sq.at]
 cases hx:xs[i]? with
 | none=>exact ⟨vs,h',by have:=List.getElem?_eq_none_iff.mp hx; omega⟩
 | some x=>
   obtain ⟨v,hv,dv⟩:=d'.get hx
   refine ⟨⟨vs,v,h',hv⟩,fun y H' ⟨e1,e2⟩=>?_⟩
   subst e1
   have ex:y=v:=by have:=e2 vs h'; rw [hv] at this; exact (Option.some.inj this).symm
   subst ex
   exact ⟨Go.refl m _,r,dv⟩
theorem K0 {Z:Zt} {m0:List Addr} {H0:Hp} {a:Addr} {vs:List V} {xs:List U} (h:SqF Z.K H0 a vs) (d:au Z m0 H0 vs xs):Yl Z (Itl Z.K a) (.vals xs) m0 H0:=by
 intro m st H g r i
 have h':=(goF g h).sq
 have d':=d.mono g
 have hl:=d'.length
 simp only [Sq.at]
 cases hx:xs[i]? with
 | none=>exact ⟨vs,h',by have:=List.getElem?_eq_none_iff.mp hx; omega⟩
 | some x=>
   obtain ⟨v,hv,dv⟩:=d'.get hx
   refine ⟨⟨vs,v,h',hv⟩,fun y H' ⟨e1,e2⟩=>?_⟩
   subst e1
   have ex:y=v:=by have:=e2 vs h'; rw [hv] at this; exact (Option.some.inj this).symm
   subst ex
   exact ⟨Go.refl m _,r,dv⟩
theorem vT:∀ (xs:List U) (k i:Nat),(vx k xs)[i]?=(xs[i]?).map fun x=>.tup [.int ((k + i:Nat):Int),x]
 | [],_,_=>by simp [vx]
 | x :: xs,k,0=>by simp [vx]
 | x :: xs,k,i + 1=>by
   simp only [vx,List.getElem?_cons_succ]
   rw [vT xs (k + 1) i,show k + 1 + i=k + (i + 1) by omega]
theorem Hs {Z:Zt} {m0:List Addr} {H0:Hp} {a:Addr} {vs:List V} {xs:List U} (h:SqF Z.K H0 a vs) (d:au Z m0 H0 vs xs):Yl Z (Ite Z.K a) (.vals (vx 0 xs)) m0 H0:=by
 intro m st H g r i
 have h':=(goF g h).sq
 have d':=d.mono g
 have hl:=d'.length
 simp only [Sq.at]
 rw [vT,Nat.zero_add]
 cases hx:xs[i]? with
 | none=>exact ⟨vs,h',by have:=List.getElem?_eq_none_iff.mp hx; omega⟩
 | some x=>
   obtain ⟨v,hv,dv⟩:=d'.get hx
   refine ⟨⟨vs,v,h',hv⟩,fun y H' ⟨p,x',hp,e0,e1,e2⟩=>?_⟩
   subst e0 e1
   have ex:x'=v:=by have:=e2 vs h'; rw [hv] at this; exact (Option.some.inj this).symm
   subst ex
   have g':=Go.new r (o:=.tup [.int (i:Nat),x']) hp
   exact ⟨g',r.upd hp,.tup (.inl (.inl dM)) (.cons .int (.cons (dv.mono g') .nil))⟩
theorem yo (lo:Int) (n i:Nat):(lO lo n)[i]?=if i < n then some (.int (lo + (i:Nat))) else none:=by
 simp only [lO,List.getElem?_map,List.getElem?_range]
 split <;> simp_all
theorem BE {Z:Zt} {m0:List Addr} {H0:Hp} (lo:Int) (n:Nat):Yl Z (Itr lo n) (.vals (lO lo n)) m0 H0:=by
 intro m st H g r i
 simp only [Sq.at,yo]
 by_cases hi:i < n
 · rw [if_pos hi]
   refine ⟨hi,fun y H' ⟨e1,e2⟩=>?_⟩
   subst e1 e2
   exact ⟨Go.refl m _,r,.int⟩
 · rw [if_neg hi]
   show n≤i
   omega
theorem Jg {Z:Zt} {m0:List Addr} {H0:Hp} {a:Addr} {l:Nat} (h:m0[l]?=some a):Yl Z (Ite Z.K a) (.enu l) m0 H0:=by
 intro m st H g r i
 obtain ⟨fz,ds,vs,e,ly,dn⟩:=r.loc (kL g.pre h)
 simp only [Sq.at,e,Option.map_some]
 have hl:=dn.length
 cases hx:ds[i]? with
 | none=>exact ⟨vs,ly.sq,by have:=List.getElem?_eq_none_iff.mp hx; omega⟩
 | some x=>
   obtain ⟨v,hv,dv⟩:=dn.get hx
   refine ⟨⟨vs,v,ly.sq,hv⟩,fun y H' ⟨p,x',hp,e0,e1,e2⟩=>?_⟩
   subst e0 e1
   have ex:x'=v:=by have:=e2 vs ly.sq; rw [hv] at this; exact (Option.some.inj this).symm
   subst ex
   have g':=Go.new r (o:=.tup [.int (i:Nat),x']) hp
   exact ⟨g',r.upd hp,.tup (.inl (.inl dM)) (.cons .int (.cons (dv.mono g') .nil))⟩
noncomputable def HE (Z:Zt) (a:Addr) (p:Sq) (m0:List Addr) (H0:Hp):Prop:=∀ m st H,Go m0 H0 m H→R Z m st H→∀ i,match p.at st i with
 | none=>True
 | some none=>∃ vs,SqL Z.K H a vs∧vs.length≤i
 | some (some x)=>∃ vs v,SqL Z.K H a vs∧vs[i]?=some v∧bK Z m H v x
theorem y8 {Z:Zt} {m0:List Addr} {st0:Sto} {H0:Hp} {v:V} {x:U} {p:Sq} (r0:R Z m0 st0 H0) (d:bK Z m0 H0 v x) (e:src st0 x=some p):∃ a,v=.ref a∧(∃ xs,SqL Z.K H0 a xs)∧HE Z a p m0 H0:=by
 cases d with
 | loc hl=>
   simp only [src] at e
   split at e
   · cases e
     obtain ⟨_,_,vs0,_,ly0,_⟩:=r0.loc hl
     refine ⟨_,rfl,⟨vs0,ly0.sq⟩,?_⟩
     intro m st H g r i
     obtain ⟨fz,ds,vs,e,ly,dn⟩:=r.loc (kL g.pre hl)
     simp only [Sq.at,e,Option.map_some]
     have hl:=dn.length
     cases hx:ds[i]? with
     | none=>exact ⟨vs,ly.sq,by have:=List.getElem?_eq_none_iff.mp hx; omega⟩
     | some x=>
       obtain ⟨v,hv,dv⟩:=dn.get hx
       exact ⟨vs,v,ly.sq,hv,dv⟩
   · cases e
 | kl h1 d1=>
   cases e
   refine ⟨_,rfl,⟨_,h1.sq⟩,?_⟩
   intro m st H g r i
   have h':=(goF g h1).sq
   have d':=d1.mono g
   have hl:=d'.length
   simp only [Sq.at]
   split
   · trivial
   · rename_i hx
     exact ⟨_,h',by have:=List.getElem?_eq_none_iff.mp (Option.some.inj hx); omega⟩
   · rename_i x hx
     obtain ⟨v,hv,dv⟩:=d'.get (Option.some.inj hx)
     exact ⟨_,v,h',hv,dv⟩
 | _=>cases e
theorem Hk {Z:Zt} {m0:List Addr} {H0:Hp} {a b:Addr} {p q:Sq} (sa:HE Z a p m0 H0) (sb:HE Z b q m0 H0):Yl Z (Ev.Itz Z.K a b) (.zip p q) m0 H0:=by
 intro m st H g r i
 have ha:=sa m st H g r i
 have hb:=sb m st H g r i
 simp only [Sq.at]
 cases ep:p.at st i with
 | none=>trivial
 | some o=>
   cases eq:q.at st i with
   | none=>trivial
   | some o'=>
     rw [ep] at ha
     rw [eq] at hb
     cases o with
     | none=>
       obtain ⟨vs,h1,h2⟩:=ha
       cases o' with
       | none=>obtain ⟨ws,h3,_⟩:=hb; exact ⟨vs,ws,h1,h3,.inl h2⟩
       | some y=>obtain ⟨ws,w,h3,_⟩:=hb; exact ⟨vs,ws,h1,h3,.inl h2⟩
     | some x=>
       obtain ⟨vs,v,h1,h2,dv⟩:=ha
       cases o' with
       | none=>obtain ⟨ws,h3,h4⟩:=hb; exact ⟨vs,ws,h1,h3,.inr h4⟩
       | some y=>
         obtain ⟨ws,w,h3,h4,dw⟩:=hb
         refine ⟨⟨vs,ws,v,w,h1,h3,h2,h4⟩,fun u H' ⟨p',x',y',hp,e0,e1,e2,e3⟩=>?_⟩
         subst e0 e1
         have ex:x'=v:=by have:=e2 vs h1; rw [h2] at this; exact (Option.some.inj this).symm
         have ey:y'=w:=by have:=e3 ws h3; rw [h4] at this; exact (Option.some.inj this).symm
         subst ex ey
         have g':=Go.new r (o:=.tup [x',y']) hp
         exact ⟨g',r.upd hp,.tup (.inl (.inl dM)) (.cons (dv.mono g') (.cons (dw.mono g') .nil))⟩
end
end Sv
namespace Sv
open PySem PySem.Spec PyProof.Rows L2
open Ev (D aZ bp ai kf j7 eN slot slot_get iY j1 kC mh jy fX ky bc oq mY PTs mE oJ BH Ite dC)
section
variable {X:Cx} {T:Tr} {Φ:Fn} {cl:Nat→Addr} {CX:CXT} {Ex:Nat→Hp→Prop} {k:Nat}
theorem vC {a b:Bool} (h:(a && b)=true):a=true∧b=true:=by rw [Bool.and_eq_true] at h; exact h
theorem ES {T:Tr} {scope:Scope} {j i:Nat} (h:(iI T scope)[j]?=some (some i)):∃ x,(ky scope)[j]?=some x∧T.N[i]?=some x∧(x,NameKind.free) ∈ scope.names:=by
 unfold iI at h
 rw [List.getElem?_map] at h
 cases e:(ky scope)[j]? with
 | none=>rw [e] at h; cases h
 | some x=>
   rw [e] at h
   have h':(if (x,NameKind.free) ∈ scope.names then slot T.N x else none)=some i:=Option.some.inj h
   split at h'
   · rename_i hm
     exact ⟨x,rfl,slot_get h',hm⟩
   · cases h'
structure Bx (T:Tr) (scope:Scope):Prop where
 slt:∀ x,(x,NameKind.free) ∈ scope.names→(slot T.N x).isSome=true
 kind:scope.kind=.function
 tk:T.sc.kind=.function
 loc:∀ x ∈ scope.names,x.2=.local→scope.names.lookup x.1=some .local
 fre:∀ x ∈ scope.names,x.2=.free→T.sc.names.lookup x.1=some .cell
 one:∀ x,(x,NameKind.free) ∈ scope.names→(x,NameKind.cell) ∉ scope.names
 nob:∀ x,(x,NameKind.free) ∈ scope.names→(x,NameKind.local) ∉ scope.names
 nd:(ky scope++[("#" : Str)]).Nodup
 vis:¬ Vis (jy scope T.sc) ("#" : Str)
theorem vW {T:Tr} {scope:Scope} (h:zk T scope=true):Bx T scope:=by
 unfold zk at h
 obtain ⟨h,h9⟩:=vC h
 obtain ⟨h,h8⟩:=vC h
 obtain ⟨h,h6⟩:=vC h
 obtain ⟨h,h5⟩:=vC h
 obtain ⟨h,h4⟩:=vC h
 obtain ⟨h,h3⟩:=vC h
 obtain ⟨h,h2⟩:=vC h
 obtain ⟨h0,h1⟩:=vC h
 rw [List.all_eq_true] at h0 h3 h4 h5
 refine ⟨fun x hx=>by simpa using h0 _ hx,eq_of_beq h1,eq_of_beq h2,fun x hx hk=>?_,fun x hx hk=>?_,fun x hx hm=>?_,fun x hx hm=>?_,of_decide_eq_true h6,fun hv=>?_⟩
 · have:=h3 x hx
   rw [hk] at this
   simpa using this
 · have:=h4 x hx
   rw [hk] at this
   simpa using this
 · have:=h5 _ hx
   simp [hm] at this
 · have:=h5 _ hx
   simp [hm] at this
 · rcases hv with hv | hv | hv
   · unfold iY at h8; rw [hv] at h8; simp at h8
   · unfold iY at h8; rw [hv] at h8; simp at h8
   · rw [hv] at h9; simp at h9
theorem CH (B:Bg X T Φ cl CX Ex k) {scope:Scope} (b:Bx T scope):mY X scope (qy T scope).N (iI T scope) where
 kind:=b.kind
 loc:=b.loc
 fre:=fun x hx hk=>by
   show X.env.scope.names.lookup x.1=_
   rw [B.sc]; exact b.fre x hx hk
 one:=b.one
 noboth:=b.nob
 len:=by
   show (ky scope++[("#" : Str)]).length=_
   unfold iI
   rw [List.length_append,List.length_map]; rfl
 cap:=fun j i h=>by
   obtain ⟨x,h1,h2,h3⟩:=ES h
   refine ⟨x,?_,by rw [B.nm]; exact h2,h3⟩
   show (ky scope++[("#" : Str)])[j]?=some x
   rw [List.getElem?_append_left (List.getElem?_eq_some_iff.mp h1).1]; exact h1
 acc:=by
   refine ⟨("#" : Str),?_,by rw [fX B.sc]; exact b.vis⟩
   show (ky scope++[("#" : Str)])[(iI T scope).length]?=_
   unfold iI
   rw [List.length_map,List.getElem?_append_right (Nat.le_refl _),Nat.sub_self]
   rfl
theorem IY {X':Cx} {Z:Zt} (h:∀ outer H s E e s',(∀ C a H',¬ E C a H')→¬ CX outer H s E e s'):Passes CX X' (xk Z fun _ _=>False):=fun _ _ _ _ _ _ _ q=>absurd q (h _ _ _ _ _ _ fun _ _ _ ⟨_,_,z⟩=>z)
theorem Bs (B:Bg X T Φ cl CX Ex k) {scope:Scope} (b:Bx T scope) (s:Shared) (H:Hp) (fp:List Addr):Bg (bc X s H scope (qy T scope).N fp) (qy T scope) Φ cl CX (fun _ _=>False) k where
 sc:=fX B.sc
 nm:=rfl
 nd:=b.nd
 calm:=B.calm
 room:=B.room
 blt:=B.blt
 cal:=B.cal
 cst:=B.cst
 cxn:=B.cxn
 pas:=IY B.cxn
 fn:=fun i x hx hc hl=>by
   show decide _=true
   refine decide_eq_true ?_
   have hfk:∀ y,(y,NameKind.free) ∈ scope.names→X.env.kindOf y=some .cell:=fun y hy=>by
     show X.env.scope.names.lookup y=_
     rw [B.sc]; exact b.fre _ hy rfl
   have hl':(relabel scope X.env).names.lookup x=some .cell:=by rw [fX B.sc]; exact hl
   rcases dC hfk (by rw [B.sc]; exact b.tk) hl' with q | q
   · exact q
   · exfalso
     have hx':(ky scope++[("#" : Str)])[i]?=some x:=hx
     have il:i < (ky scope).length:=by
       rcases Nat.lt_or_ge i (ky scope).length with z | z
       · exact z
       · exfalso
         have e0:i=(ky scope).length:=by
           have:=(List.getElem?_eq_some_iff.mp hx').1
           rw [List.length_append,List.length_singleton] at this
           omega
         rw [e0,List.getElem?_append_right (Nat.le_refl _),Nat.sub_self] at hx'
         have ex:x=("#" : Str):=(Option.some.inj hx').symm
         rw [ex] at hl
         exact b.vis (.inr (.inl hl))
     rw [List.getElem?_append_left il] at hx'
     cases hs:slot T.N x with
     | none=>
       have:=b.slt x q.1
       rw [hs] at this; cases this
     | some j=>
       have hc':(iI T scope)[i]?=some (some j):=by
         unfold iI
         rw [List.getElem?_map,hx']
         show some (if (x,NameKind.free) ∈ scope.names then slot T.N x else none)=_
         rw [if_pos q.1,hs]
       apply hc
       show i ∈ (List.range (iI T scope).length).filter _
       rw [List.mem_filter,List.mem_range]
       refine ⟨by unfold iI; rw [List.length_map]; exact il,?_⟩
       rw [List.getD_eq_getElem?_getD,hc']
       rfl
theorem u7 {ρ:Env} {caps:List (Option Nat)} {j:Nat} {d:U} (h:(ko ρ caps++[none])[j]?=some (some d)):∃ i,j < caps.length∧caps[j]?=some (some i)∧ρ[i]?=some (some d):=by
 have cl:(ko ρ caps).length=caps.length:=by unfold ko; rw [List.length_map]
 rcases Nat.lt_or_ge j caps.length with z | z
 · rw [List.getElem?_append_left (by rw [cl]; exact z)] at h
   unfold ko at h
   rw [List.getElem?_map] at h
   cases e:caps[j]? with
   | none=>rw [e] at h; cases h
   | some o=>
     rw [e] at h
     have h':(o.bind fun i=>(ρ[i]?).join)=some d:=Option.some.inj h
     cases o with
     | none=>cases h'
     | some i=>
       refine ⟨i,z,rfl,?_⟩
       have h2:(ρ[i]?).join=some d:=h'
       cases q:ρ[i]? with
       | none=>rw [q] at h2; cases h2
       | some y=>rw [q] at h2; exact congrArg some h2
 · rw [List.getElem?_append_right (by rw [cl]; exact z)] at h
   have:=List.mem_of_getElem? h
   simp at this
theorem Ar {Z:Zt} {m:List Addr} {H:Hp} {σ:L2.St} {ρ:Env} {caps:List (Option Nat)} {D0:Addr} (en:cH Z m H σ ρ):cH Z m H (oq σ caps++[some (.ref D0)]) (ko ρ caps++[none]):=by
 refine ⟨by unfold oq ko; simp,fun j d h=>?_⟩
 obtain ⟨i,hj,e1,e2⟩:=u7 h
 obtain ⟨v,g1,g2⟩:=en.get i d e2
 refine ⟨v,?_,g2⟩
 rw [List.getElem?_append_left (by unfold oq; rw [List.length_map]; exact hj)]
 unfold oq
 rw [List.getElem?_map,e1]
 show some ((σ[i]?).join)=_
 rw [g1]; rfl
theorem sH:∀ {is:List Nat} {ds:List U} {ρ ρ':Env},lZ is ds ρ=some ρ'→ρ'.length=ρ.length∧∀ (i:Nat),i ∉ is→ρ'[i]?=ρ[i]?
 | [],[],_,_,h=>by cases h; exact ⟨rfl,fun _ _=>rfl⟩
 | j :: is,x :: xs,ρ,ρ',h=>by
   rw [lZ] at h
   obtain ⟨h1,h2⟩:=sH h
   refine ⟨by rw [h1,List.length_set],fun i hi=>?_⟩
   rw [h2 i (fun z=>hi (List.mem_cons_of_mem _ z)),List.getElem?_set_ne (fun z=>hi (by rw [z]; exact List.mem_cons_self))]
noncomputable def tgS:Tg→List Nat
 | .nm i=>[i]
 | .tp is=>is
theorem zW {t:Tg} {d:U} {ρ ρ':Env} (h:iz t d ρ=some ρ'):ρ'.length=ρ.length∧∀ (i:Nat),i ∉ tgS t→ρ'[i]?=ρ[i]?:=by
 cases t with
 | nm j=>
   rw [iz] at h; cases h
   refine ⟨List.length_set,fun i hi=>List.getElem?_set_ne (fun z=>hi (by subst z; exact List.mem_singleton_self _))⟩
 | tp is=>
   cases d <;> rw [iz] at h <;> first | cases h | exact sH h | (intros; simp_all)
theorem w6 {T:Tr}:∀ {es:List Expr} {is:List Nat},eS T es=some is→∀ i ∈ is,i ∉ T.cap
 | [],_,h=>by cases h; exact fun i hi=>absurd hi (by simp)
 | e :: es,is,h=>by
   cases e <;> simp only [eS,Option.bind_eq_some_iff,reduceCtorEq] at h
   obtain ⟨i,h1,h2⟩:=h
   split at h2
   · cases h2
   · rename_i na
     simp only [Option.bind_eq_some_iff,Option.some.injEq] at h2
     obtain ⟨is',h3,rfl⟩:=h2
     intro j hj
     rcases List.mem_cons.mp hj with rfl | hj
     · exact na
     · exact w6 h3 j hj
theorem GN {T:Tr} {tg:Expr} {t:Tg} (h:ma T tg=some t):∀ i ∈ tgS t,i ∉ T.cap:=by
 cases tg <;> simp only [ma,Option.bind_eq_some_iff,reduceCtorEq] at h
 case Name x p=>
   obtain ⟨i,h1,h2⟩:=h
   split at h2
   · cases h2
   · rename_i na
     cases h2
     intro j hj
     rw [show j=i from List.mem_singleton.mp hj]; exact na
 case Tuple es a b=>
   obtain ⟨is,h1,h2⟩:=h
   cases h2
   exact w6 h1
theorem Eo {T:Tr} {scope:Scope} {tg:Expr} {t:Tg} {ρ:Env} (h:ma (qy T scope) tg=some t) {i:Nat} {d:U} (e:(ko ρ (iI T scope)++[none])[i]?=some (some d)):i ∉ tgS t:=fun hi=>by
 refine GN h i hi ?_
 obtain ⟨j,hl,e1,_⟩:=u7 e
 show i ∈ (List.range (iI T scope).length).filter _
 rw [List.mem_filter,List.mem_range]
 refine ⟨hl,?_⟩
 rw [List.getD_eq_getElem?_getD,e1]; rfl
theorem Go.oR {m m':List Addr} {H H':Hp} (g:Go m H m' H') {p:Addr} {o:HO} (hp:p ∉ m) (h:H p=some o):p ∉ m':=fun z=>by
 obtain ⟨l,hl⟩:=List.getElem?_of_mem z
 rcases Nat.lt_or_ge l m.length with q | q
 · exact hp (List.mem_of_getElem? (yJ g.pre q hl))
 · rw [g.fr l p q hl] at h; cases h
theorem Go.side {m m':List Addr} {H H':Hp} (g:Go m H m' H') {p:Addr} {o:HO} (hp:H p=none):Go m H m' (upd H' p o):=by
 refine ⟨g.pre,fun b u e hn=>?_,fun b e=>?_,g.fr⟩
 · rw [aK (aP e hp)]; exact g.kp b u e hn
 · unfold L2.upd at e
   split at e
   · cases e
   · exact g.tr b e
theorem R.adopt {Z:Zt} {m:List Addr} {st:Sto} {H:Hp} (r:R Z m st H) {p:Addr} {vs:List V} {ds:List U} (hp:p ∉ m) (h:H p=some (.lst vs)) (dn:au Z m H vs ds) :
   R Z (m++[p]) (st++[(false,ds)]) H∧bK Z (m++[p]) H (.ref p) (.loc st.length):=by
 have up:∀ {vs:List V} {ds:List U},au Z m H vs ds→au Z (m++[p]) H vs ds:=fun {vs ds} d=>by
   refine au.rec (motive_1:=fun v d _=>bK Z (m++[p]) H v d) (motive_2:=fun ws es _=>au Z (m++[p]) H ws es) .non .bl .int .str (fun h _ ih=>.tup h ih) (fun h=>.loc (kL (List.prefix_append m [p]) h)) (fun h=>.exo h) (fun h _ ih=>.kl h ih) .nil (fun _ _ i1 i2=>.cons i1 i2) d
 have hl:(m++[p])[st.length]?=some p:=by rw [← r.len,List.getElem?_append_right (Nat.le_refl _),Nat.sub_self]; rfl
 refine ⟨⟨by rw [List.length_append,List.length_append,r.len]; rfl,fun i j a e1 e2=>?_,fun l a fz es e1 e2=>?_⟩,.loc hl⟩
 · have key:∀ (i:Nat) a,(m++[p])[i]?=some a→(m[i]?=some a∧a ≠ p)∨(i=m.length∧a=p):=fun i a e=>by
     rcases Nat.lt_or_ge i m.length with q | q
     · rw [List.getElem?_append_left q] at e
       exact .inl ⟨e,fun z=>hp (z ▸ List.mem_of_getElem? e)⟩
     · have hi:=(List.getElem?_eq_some_iff.mp e).1
       rw [List.length_append,List.length_singleton] at hi
       rw [List.getElem?_append_right q] at e
       have:=List.mem_of_getElem? e
       rw [List.mem_singleton] at this
       exact .inr ⟨by omega,this⟩
   rcases key i a e1 with ⟨q1,q2⟩ | ⟨q1,q2⟩ <;> rcases key j a e2 with ⟨w1,w2⟩ | ⟨w1,w2⟩
   · exact r.inj i j a q1 w1
   · exact absurd w2 q2
   · exact absurd q2 w2
   · rw [q1,w1]
 · rcases Nat.lt_or_ge l m.length with q | q
   · rw [List.getElem?_append_left q] at e1
     rw [List.getElem?_append_left (by rw [← r.len]; exact q)] at e2
     obtain ⟨ws,h1,h2⟩:=r.obj l a fz es e1 e2
     exact ⟨ws,h1,up h2⟩
   · have hi:=(List.getElem?_eq_some_iff.mp e1).1
     rw [List.length_append,List.length_singleton] at hi
     obtain rfl:l=m.length:=by omega
     rw [List.getElem?_append_right (Nat.le_refl _),Nat.sub_self] at e1
     rw [r.len,List.getElem?_append_right (Nat.le_refl _),Nat.sub_self] at e2
     cases e1; cases e2
     exact ⟨vs,by unfold Lay; rw [if_neg (by decide)]; exact h,up dn⟩
theorem Go.adopt {m m':List Addr} {H H':Hp} (g:Go m H m' H') {p:Addr} (hp:H p=none):Go m H (m'++[p]) H':=by
 refine ⟨g.pre.trans (List.prefix_append m' [p]),g.kp,g.tr,fun l a hl e=>?_⟩
 rcases Nat.lt_or_ge l m'.length with q | q
 · rw [List.getElem?_append_left q] at e; exact g.fr l a hl e
 · rw [List.getElem?_append_right q] at e
   have:=List.mem_of_getElem? e
   rw [List.mem_singleton] at this
   rw [this]; exact hp
structure Snd (X:Cx) (T:Tr) (Φ:Fn) (cl:Nat→Addr) (Ex:Nat→Hp→Prop) (n:Nat):Prop where
 e:∀ pe e,trE T n pe=some e→PE X pe (lE (zt X cl) Φ Ex e)∧PT X pe (lT (zt X cl) Φ Ex e)
 w:∀ op vs pos e,trE T n (.BoolOp op vs pos)=some e→PW X (.BoolOp op vs pos) (lT (zt X cl) Φ Ex e)
 a:∀ es es',jz T n es=some es'→PA X es (lEs (zt X cl) Φ Ex es')
 p:∀ e e',trP T n e=some e'→PO X e (lP (zt X cl) Φ Ex e')
 f:∀ es es',vM T n es=some es'→PTs X es (lIf (zt X cl) Φ Ex es')
 i:∀ tg it it',trI T n it=some it'→vX tg it'=true→PI X tg it (lI (zt X cl) Φ Ex it')∧∀ x,foldedSetIterable it X.env x=pure x
theorem zr {scope:Scope} {tg:Expr} {t:Tg} {it:It} {fs:List E} {e:E} (h1:ma (qy T scope) tg=some t):∀ σ H Q,lE (zt X cl) Φ Ex (.comp (iI T scope) t it fs e) σ H Q →
   oJ (fun g tt te=>g=lG (zt X cl) t∧tt=lIf (zt X cl) Φ (fun _ _=>False) fs∧te=lE (zt X cl) Φ (fun _ _=>False) e) (iI T scope) (lI (zt X cl) Φ Ex it) σ H Q:=by
 rintro σ H Q ⟨m,st,ρ,r,en,h⟩
 simp only [xE] at h
 refine ⟨m,st,ρ,r,en,ay (aG h) (fun _ _ z=>z) fun q st1 _ hq J m1 H1 g1 r1 yl=>?_⟩
 split at hq
 · rename_i hlx
   have hq:=aG (qa hq)
   refine ⟨_,_,_,⟨rfl,rfl,rfl⟩,fun D0 hD=>?_⟩
   have rD:=r1.upd (o:=.lst []) hD
   have gD:=Go.new r1 (o:=.lst []) hD
   generalize hf:(fun (x:U) (st:Sto)=>match iz t x (ko ρ (iI T scope)++[none]) with
       | none=>(Rs.bad:Rs (Option U))
       | some ρ1=>(xIf Φ fs ρ1 st).bind fun b st2=>if b=true then (xE Φ e ρ1 st2).bind fun y st3=>.ok (some y) st3 else .ok none st2)=f at hq
   refine ⟨fun i n σ' H'=>∃ m' st' us vs,R (zt X cl) m' st' H'∧D0 ∉ m'∧Go m1 H1 m' H'∧cH (zt X cl) m' H' σ' (ko ρ (iI T scope)++[none])∧H' D0=some (.lst vs)∧au (zt X cl) m' H' vs us∧us.length≤i∧i + n=q.len st1 + 1 ∧
     post (fun _ _=>False) (fun rest st2=>post (fun _ _=>False) (kV (zt X cl) m H Q) (new st2 (us++rest))) (iQ f q n i st'),⟨q.len st1 + 1,m1,st1,[],[],rD,r1.out hD,gD,Ar (en.mono (g1.trans gD)),dM,.nil,Nat.le_refl _,by omega,hq⟩,?_⟩
   rintro i n σ' H' ⟨m',st',us,vs,r',hDm,g',en',hv,du,hul,hin,hc⟩
   cases n with
   | zero=>exact hc.elim
   | succ n=>
     rw [iQ] at hc
     have yi:=yl m' st' H' g' r' i
     split at hc
     · exact hc.elim
     · rename_i hat
       rw [hat] at yi
       refine .inl ⟨yi,?_⟩
       have hc:post (fun _ _=>False) (kV (zt X cl) m H Q) (new st' (us++[])):=hc
       rw [List.append_nil] at hc
       obtain ⟨ra,da⟩:=r'.adopt hDm hv du
       exact hc _ H' _ (g1.trans (g'.adopt hD)) ra da
     · rename_i x hat
       rw [hat] at yi
       refine .inr ⟨yi.1,fun v H2 hy=>?_⟩
       obtain ⟨g2,r2,dv⟩:=yi.2 v H2 hy
       have hc:=aG hc
       subst hf
       dsimp only at hc
       split at hc
       · exact hc.elim
       · rename_i ρ1 hset
         have hv2:=g2.kp _ _ hv (.inl hDm)
         refine ⟨m',st',_,x,ρ1,r2,en'.mono g2,dv,hset,fun σ2 en2=>?_⟩
         have less:∀ {m3:List Addr} {H3:Hp},cH (zt X cl) m3 H3 σ2 ρ1→cH (zt X cl) m3 H3 σ2 (ko ρ (iI T scope)++[none]):=fun z=>by
           obtain ⟨l1,l2⟩:=zW hset
           exact ⟨by rw [z.len,l1],fun j d hj=>z.get j d (by rw [l2 j (Eo h1 hj)]; exact hj)⟩
         refine ⟨m',st',ρ1,r2,en2,ay (aG hc) (fun _ _ z=>z.elim) fun bb st2 _ hb m2 H4 g3 r3=>?_⟩
         have hv4:=g3.kp _ _ hv2 (.inl hDm)
         have hD4:=g3.oR hDm hv2
         cases bb with
         | false=>
           rw [if_neg (by decide)] at hb
           have hb:=aG hb
           refine rY ⟨n,Nat.lt_succ_self n,m2,st2,us,vs,r3,hD4,(g'.trans g2).trans g3,less (en2.mono g3),hv4,du.mono (g2.trans g3),by omega,by omega,?_⟩
           exact ay hb (fun _ _ z=>z) fun rest st3 _ z=>z
         | true=>
           rw [if_pos rfl] at hb
           refine sj ⟨m2,st2,ρ1,r3,en2.mono g3,ay (aG hb) (fun _ _ z=>z.elim) fun y st3 _ hy m3 H5 w g4 r4 dw=>?_⟩
           have hv5:=g4.kp _ _ hv4 (.inl hD4)
           have hD5:=g4.oR hD4 hv4
           have hy:=aG hy
           have g5:=(((g'.trans g2).trans g3).trans g4)
           obtain ⟨r5,k5⟩:=r4.side (vs:=vs++[w]) hv5 hD5
           have ks:∀ {ws:List V} {es:List U},au (zt X cl) m3 H5 ws es→au (zt X cl) m3 (upd H5 D0 (.lst (vs++[w]))) ws es:=fun {ws es} z=>by
             induction ws generalizing es with
             | nil=>cases z; exact .nil
             | cons a ws ih=>cases z with | cons z1 z2=>exact .cons (k5 z1) (ih z2)
           have l5:=du.length
           have le:us.length≤i:=hul
           refine ⟨vs,n,hv5,?_,Nat.lt_succ_self n,m3,st3,us++[y],vs++[w],r5,hD5,g5.side hD,?_,dM,(ks (du.mono ((g2.trans g3).trans g4))).append (.cons (k5 dw) .nil),by rw [List.length_append,List.length_singleton]; omega,by omega,?_⟩
           · have:=Ev.cC; omega
           · have z:=less (en2.mono (g3.trans g4))
             exact ⟨z.len,fun j d hj=>let ⟨v',e1,e2⟩:=z.get j d hj; ⟨v',e1,k5 e2⟩⟩
           · refine ay hy (fun _ _ z=>z) fun rest st4 _ z=>?_
             have z:post (fun _ _=>False) (kV (zt X cl) m H Q) (new st4 (us++y :: rest)):=z
             rw [List.append_assoc]; exact z
 · exact hq.elim
theorem B5 {n:Nat} (B:Bg X T Φ cl CX Ex k) (S:Snd X T Φ cl Ex n) (IH:∀ {X:Cx} {T:Tr} {Ex:Nat→Hp→Prop},Bg X T Φ cl CX Ex k→Snd X T Φ cl Ex n) {elt tg iter:Expr} {ifs:List Expr} {scope:Scope} {pos:Pos} {t:Tg} {it:It} {fs:List E} {e:E}
   (hb:zk T scope=true) (h1:ma (qy T scope) tg=some t) (h2:trI T n iter=some it) (h3:vM (qy T scope) n ifs=some fs) (h4:trE (qy T scope) n elt=some e) (ho:vX tg it=true) :
   PE X (.ListComp elt [⟨tg,iter,ifs,0⟩] scope pos) (lE (zt X cl) Φ Ex (.comp (iI T scope) t it fs e)):=by
 have b:=vW hb
 obtain ⟨hi,hs⟩:=S.i tg iter it h2 ho
 refine PE.wk (mE (In:=fun g tt te=>g=lG (zt X cl) t∧tt=lIf (zt X cl) Φ (fun _ _=>False) fs∧te=lE (zt X cl) Φ (fun _ _=>False) e) B.calm (CH B b) hi hs ?_) ?_
 · rintro g tt te ⟨rfl,rfl,rfl⟩ s H fp
   have B':=Bs B b s H fp
   have S':=IH B'
   exact ⟨pP B' h1,S'.f _ _ h3,(S'.e _ _ h4).1⟩
 · exact zr h1
end
end Sv
namespace Sv
open PySem PySem.Spec PyProof.Rows L2
open Ev (D aZ bp ai kf j7 eN slot slot_get iY j1 kC mh jy fX ky bc oq mY PTs mE oJ BH Ite dC ub nC)
section
variable {X:Cx} {T:Tr} {Φ:Fn} {cl:Nat→Addr} {CX:CXT} {Ex:Nat→Hp→Prop} {k:Nat}
theorem PoT.po {Z:Zt} {m:List Addr} {H:Hp} {Q:Bool→Hp→Prop} {x:Rs U} (h:PoT Z Ex m H Q x):Po Z Ex m H (fun v H=>∃ b,v=.bl b∧Q b H) x:=
 ay h (fun _ _ z=>z) fun d st _ ⟨b,e,q⟩ m' H' v g r dv=>by subst e; exact ⟨b,jN dv,q m' H' g r⟩
theorem dH {Z:Zt} {m:List Addr} {st:Sto} {ρ:Env} {H:Hp} {σ:L2.St} {Q Q1:VK} {a:E} {f:U→Sto→Rs U} (r:R Z m st H) (en:cH Z m H σ ρ) (h:Po Z Ex m H Q ((xE Φ a ρ st).bind f))
   (k:∀ x st1 m1 H1 v,Go m H m1 H1→R Z m1 st1 H1→cH Z m1 H1 σ ρ→bK Z m1 H1 v x→Po Z Ex m1 H1 Q (f x st1)→Q1 v H1):lE Z Φ Ex a σ H Q1:=
 ⟨m,st,ρ,r,en,ay (aG h) (fun _ _ z=>z) fun x st1 _ hx m1 H1 v g1 r1 dv=>k x st1 m1 H1 v g1 r1 (en.mono g1) dv (Po.sh hx g1)⟩
theorem Er {Z:Zt} {m:List Addr} {st:Sto} {ρ:Env} {H:Hp} {σ:L2.St} {Q:VK} {Q1:Bool→Hp→Prop} {a:E} {f:U→Sto→Rs U} (r:R Z m st H) (en:cH Z m H σ ρ) (h:Po Z Ex m H Q ((xE Φ a ρ st).bind f)) (hf:∀ x st,(∀ b,x ≠ .bl b)→f x st=.bad)
   (k:∀ b st1 m1 H1,Go m H m1 H1→R Z m1 st1 H1→cH Z m1 H1 σ ρ→Po Z Ex m1 H1 Q (f (.bl b) st1)→Q1 b H1):lT Z Φ Ex a σ H Q1:=
 ⟨m,st,ρ,r,en,ay (aG h) (fun _ _ z=>z) fun x st1 _ hx=>by
   cases x with
   | bl b=>exact ⟨b,rfl,fun m1 H1 g1 r1=>k b st1 m1 H1 g1 r1 (en.mono g1) (Po.sh hx g1)⟩
   | _=>rw [hf _ _ (by intro b z; cases z)] at hx; exact hx.elim⟩
theorem me {Z:Zt} {m:List Addr} {st:Sto} {ρ:Env} {H:Hp} {σ:L2.St} {Q:Bool→Hp→Prop} {Q1:Bool→Hp→Prop} {a:E} {f:U→Sto→Rs U} (r:R Z m st H) (en:cH Z m H σ ρ) (h:PoT Z Ex m H Q ((xE Φ a ρ st).bind f)) (hf:∀ x st,(∀ b,x ≠ .bl b)→f x st=.bad)
   (k:∀ b st1 m1 H1,Go m H m1 H1→R Z m1 st1 H1→cH Z m1 H1 σ ρ→PoT Z Ex m1 H1 Q (f (.bl b) st1)→Q1 b H1):lT Z Φ Ex a σ H Q1:=
 ⟨m,st,ρ,r,en,ay (aG h) (fun _ _ z=>z) fun x st1 _ hx=>by
   cases x with
   | bl b=>exact ⟨b,rfl,fun m1 H1 g1 r1=>k b st1 m1 H1 g1 r1 (en.mono g1) (PoT.sh hx g1)⟩
   | _=>rw [hf _ _ (by intro b z; cases z)] at hx; exact hx.elim⟩
theorem ml {Z:Zt} {m:List Addr} {st:Sto} {ρ:Env} {H:Hp} {σ:L2.St} {Q:VK} {Q1:List V→Hp→Prop} {es:List E} {f:List U→Sto→Rs U} (r:R Z m st H) (en:cH Z m H σ ρ) (h:Po Z Ex m H Q ((xEs Φ es ρ st).bind f))
   (k:∀ xs st1 m1 H1 vs,Go m H m1 H1→R Z m1 st1 H1→au Z m1 H1 vs xs→Po Z Ex m1 H1 Q (f xs st1)→Q1 vs H1):lEs Z Φ Ex es σ H Q1:=
 ⟨m,st,ρ,r,en,ay (aG h) (fun _ _ z=>z) fun xs st1 _ hx m1 H1 vs g1 r1 dv=>k xs st1 m1 H1 vs g1 r1 dv (Po.sh hx g1)⟩
theorem uL {Z:Zt} {a b:E} {g:U→U→Sto→Rs U} {m:List Addr} {st:Sto} {ρ:Env} {H:Hp} {σ:L2.St} {Q:VK} (r:R Z m st H) (en:cH Z m H σ ρ)
   (h:Po Z Ex m H Q ((xE Φ a ρ st).bind fun x st1=>(xE Φ b ρ st1).bind fun y st2=>g x y st2)):tOp (rO Z Ex g) (lE Z Φ Ex a) (lE Z Φ Ex b) σ H Q:=
 dH r en h fun x st1 m1 H1 v g1 r1 en1 dv h1=>dH r1 en1 h1 fun y st2 m2 H2 u g2 r2 _ du h2=>⟨m2,st2,x,y,r2,dv.mono g2,du,h2⟩
theorem GG {n:Nat} (B:Bg X T Φ cl CX Ex k) (S:Snd X T Φ cl Ex n):∀ tg it it',trI T (n + 1) it=some it'→vX tg it'=true→PI X tg it (lI (zt X cl) Φ Ex it')∧∀ x,foldedSetIterable it X.env x=pure x:=by
 intro tg it it' h ho
 have seq:∀ e,trE T n it=some e→it'=.seq e→PI X tg it (lI (zt X cl) Φ Ex it')∧∀ x,foldedSetIterable it X.env x=pure x:=by
   intro e he hi
   subst hi
   refine ⟨?_,fun x=>Hj he _ _⟩
   have pe:=(S.e _ _ he).1
   refine PI.wk (Kv (DG pe) (Gm pe)) ?_
   rintro σ H Rr ⟨m,st,ρ,r,en,hq⟩
   simp only [xIt] at hq
   cases ho:xE Φ e ρ st with
   | bad=>rw [ho] at hq; exact hq.elim
   | exc c st1=>rw [ho] at hq; exact .inl ⟨m,st,ρ,r,en,by rw [ho]; exact hq⟩
   | ok x st1=>
     rw [ho,Rs.aa] at hq
     cases x with
     | loc l=>
       refine .inl ⟨m,st,ρ,r,en,?_⟩
       rw [ho]
       intro m1 H1 v g1 r1 dv
       obtain ⟨a,rfl,hl⟩:=mn dv
       dsimp only at hq
       split at hq
       · obtain ⟨fz,ds,vs,_,ly,_⟩:=r1.loc hl
         exact ⟨a,rfl,⟨vs,ly.sq⟩,hq _ m1 H1 g1 r1 (DQ hl)⟩
       · exact hq.elim
     | tup xs=>
       refine .inr ⟨m,st,ρ,r,en,?_⟩
       rw [ho]
       intro m1 H1 v g1 r1 dv
       cases dv with
       | tup h1 d1=>exact ⟨_,rfl,⟨_,h1⟩,hq _ m1 H1 g1 r1 (HV h1 d1)⟩
     | kl xs=>
       refine .inl ⟨m,st,ρ,r,en,?_⟩
       rw [ho]
       intro m1 H1 v g1 r1 dv
       cases dv with
       | kl h1 d1=>exact ⟨_,rfl,⟨_,h1.sq⟩,hq _ m1 H1 g1 r1 (K0 h1 d1)⟩
     | _=>exact hq.elim
 unfold trI at h
 split at h
 · cases h
 · rename_i n' x p a rr pos hn
   cases hn
   split at h
   · rename_i c
     obtain ⟨rfl,c2,_⟩:=c
     split at h
     · simp only [Option.bind_eq_some_iff,Option.some.injEq] at h
       obtain ⟨e,h3,rfl⟩:=h
       have st:=ef h3 [] X.env
       refine ⟨?_,fun _=>rfl⟩
       refine PI.wk (AD (B.gl c2) (B.blt _ (by simp [aW])) (hW (S.e _ _ h3).1 oe st) st) ?_
       rintro σ H Rr ⟨m,st,ρ,r,en,hq⟩
       simp only [xIt] at hq
       refine ⟨m,st,ρ,r,en,ay (aG hq) (fun _ _ z=>z) fun x st1 _ hx m1 H1 v g1 r1 dv=>?_⟩
       cases dv with
       | @int j=>
         dsimp only at hx
         split at hx
         · rename_i hj
           exact ⟨j,rfl,hj.1,hj.2,hx _ m1 H1 g1 r1 (BE 0 _)⟩
         · exact hx.elim
       | _=>exact hx.elim
     · rename_i bx
       simp only [Option.bind_eq_some_iff,Option.some.injEq] at h
       obtain ⟨e,h3,e2,h4,rfl⟩:=h
       have st2:=ef h4 [] X.env
       have st:=ef h3 [bx] X.env
       refine ⟨?_,fun _=>rfl⟩
       refine PI.wk (A1 (B.gl c2) (B.blt _ (by simp [aW])) (hW (S.e _ _ h3).1 (hW (S.e _ _ h4).1 oe st2) st) (st.trans (by rw [st2]; rfl)) st2) ?_
       rintro σ H Rr ⟨m,st,ρ,r,en,hq⟩
       simp only [xIt] at hq
       refine ⟨m,st,ρ,r,en,ay (aG hq) (fun _ _ z=>z) fun x st1 _ hx m1 H1 v g1 r1 dv=>?_⟩
       refine ⟨m1,st1,ρ,r1,en.mono g1,ay (aG hx) (fun c s z=>kE.sh g1 c s z) fun y st2 _ hy m2 H2 u g2 r2 du=>?_⟩
       cases dv with
       | @int i=>
         cases du with
         | @int j=>
           dsimp only at hy
           split at hy
           · rename_i hj
             exact ⟨i,j,rfl,⟨hj.1.1,hj.1.2,hj.2.1,hj.2.2⟩,hy _ m2 H2 (g1.trans g2) r2 (BE i _)⟩
           · exact hy.elim
         | _=>exact hy.elim
       | _=>cases du <;> exact hy.elim
     · cases h
   · split at h
     · rename_i c
       obtain ⟨rfl,c2,_⟩:=c
       split at h
       · simp only [Option.bind_eq_some_iff,Option.some.injEq] at h
         obtain ⟨e,h3,rfl⟩:=h
         have st:=ef h3 [] X.env
         obtain ⟨ts,q,tp,rfl⟩:∃ ts q tp,tg=.Tuple ts q tp:=by
           cases tg <;> first | exact ⟨_,_,_,rfl⟩ | cases ho
         refine ⟨?_,fun _=>rfl⟩
         refine PI.wk (ub (B.gl c2) (B.blt _ (by simp [aW])) (hW (S.e _ _ h3).1 oe st) st) ?_
         rintro σ H Rr ⟨m,st,ρ,r,en,hq⟩
         simp only [xIt] at hq
         refine ⟨m,st,ρ,r,en,ay (aG hq) (fun _ _ z=>z) fun x st1 _ hx m1 H1 v g1 r1 dv=>?_⟩
         cases dv with
         | loc hl=>
           dsimp only at hx
           split at hx
           · obtain ⟨fz,ds,vs,_,ly,_⟩:=r1.loc hl
             exact ⟨_,rfl,⟨vs,ly.sq⟩,hx _ m1 H1 g1 r1 (Jg hl)⟩
           · exact hx.elim
         | kl h1 d1=>exact ⟨_,rfl,⟨_,h1.sq⟩,hx _ m1 H1 g1 r1 (Hs h1 d1)⟩
         | _=>exact hx.elim
       · cases h
     · split at h
       · rename_i c
         obtain ⟨rfl,c2,_⟩:=c
         split at h
         · rename_i bx
           simp only [Option.bind_eq_some_iff,Option.some.injEq] at h
           obtain ⟨e,h3,e2,h4,rfl⟩:=h
           have st2:=ef h4 [] X.env
           have st:=ef h3 [bx] X.env
           obtain ⟨ts,q,tp,rfl⟩:∃ ts q tp,tg=.Tuple ts q tp:=by
             cases tg <;> first | exact ⟨_,_,_,rfl⟩ | cases ho
           refine ⟨?_,fun _=>rfl⟩
           refine PI.wk (Ev.JR (B.gl c2) (B.blt _ (by simp [aW])) (hW (S.e _ _ h3).1 (hW (S.e _ _ h4).1 oe st2) st) st st2) ?_
           rintro σ H Rr ⟨m,st,ρ,r,en,hq⟩
           simp only [xIt] at hq
           refine ⟨m,st,ρ,r,en,ay (aG hq) (fun _ _ z=>z) fun x st1 _ hx m1 H1 v g1 r1 dv=>?_⟩
           refine ⟨m1,st1,ρ,r1,en.mono g1,ay (aG hx) (fun c s z=>kE.sh g1 c s z) fun y st2 _ hy m2 H2 u g2 r2 du=>?_⟩
           cases e1:src st2 x with
           | none=>rw [e1] at hy; exact hy.elim
           | some p=>
             cases e3:src st2 y with
             | none=>rw [e1,e3] at hy; exact hy.elim
             | some q=>
               rw [e1,e3] at hy
               obtain ⟨a,rfl,ha,sa⟩:=y8 r2 (dv.mono g2) e1
               obtain ⟨b,rfl,hb,sb⟩:=y8 r2 du e3
               exact ⟨a,b,rfl,ha,hb,hy _ m2 H2 (g1.trans g2) r2 (Hk sa sb)⟩
         · cases h
       · simp only [Option.bind_eq_some_iff,Option.some.injEq] at h
         obtain ⟨e,h3,rfl⟩:=h
         exact seq e h3 rfl
 · rename_i n' heq hn
   cases heq
   simp only [Option.bind_eq_some_iff,Option.some.injEq] at h
   obtain ⟨e,h3,rfl⟩:=h
   exact seq e h3 rfl
theorem Ck {n:Nat} (S:Snd X T Φ cl Ex n):∀ es es',jz T (n + 1) es=some es'→PA X es (lEs (zt X cl) Φ Ex es'):=by
 intro es es' h
 cases es with
 | nil=>
   simp only [jz,Option.some.injEq] at h
   subst h
   refine PA.wk oe ?_
   rintro σ H Q ⟨m,st,ρ,r,en,q⟩
   simp only [xEs] at q
   exact q m H [] (Go.refl m H) r .nil
 | cons e es=>
   simp only [jz,Option.bind_eq_some_iff,Option.some.injEq] at h
   obtain ⟨e',h1,es',h2,rfl⟩:=h
   refine PA.wk (hW (S.e _ _ h1).1 (S.a _ _ h2) (ef h1 _ _)) ?_
   rintro σ H Q ⟨m,st,ρ,r,en,q⟩
   simp only [xEs] at q
   refine ⟨m,st,ρ,r,en,ay (aG q) (fun _ _ z=>z) fun x st1 _ hx m1 H1 v g1 r1 dv=>?_⟩
   refine ⟨m1,st1,ρ,r1,en.mono g1,ay (aG hx) (fun c s z=>kE.sh g1 c s z) fun xs st2 _ hy m2 H2 vs g2 r2 dvs=>?_⟩
   exact hy m2 H2 _ (g1.trans g2) r2 (.cons (dv.mono g2) dvs)
theorem zQ {Φ:Fn}:∀ {es:List E} {ρ:Env} {st st':Sto} {xs:List U},xEs Φ es ρ st=.ok xs st'→xs.length=es.length
 | [],ρ,st,st',xs,h=>by rw [xEs] at h; cases h; rfl
 | e :: es,ρ,st,st',xs,h=>by
   rw [xEs] at h
   cases h1:xE Φ e ρ st with
   | ok x st1=>
     rw [h1,Rs.aa] at h
     cases h2:xEs Φ es ρ st1 with
     | ok ys st2=>
       rw [h2,Rs.aa] at h
       cases h
       rw [List.length_cons,List.length_cons,zQ h2]
     | exc c s=>rw [h2] at h; cases h
     | bad=>rw [h2] at h; cases h
   | exc c s=>rw [h1] at h; cases h
   | bad=>rw [h1] at h; cases h
theorem Fu (B:Bg X T Φ cl CX Ex k) {i:Nat} {x:Str} {e:Expr} {es:List Expr} {es':List E} {p pos:Pos} (hi:slot T.F x=some i) (hg:Gl X x) (hdb:(x == ("__debug__" : Str))=false) (ha:PA X (e :: es) (lEs (zt X cl) Φ Ex es'))
   (he:starEach (e :: es) X.env=(false,eval e X.env) :: starEach es X.env) (hpl:(backTo pos (starEach es X.env)).any (·.1)=false):PE X (.Call (.Name x p) (e :: es) [] pos) (lE (zt X cl) Φ Ex (.call i es')):=by
 obtain ⟨f,fd,ps,G,F,hm,hk,hn⟩:=(B.cal i x (slot_get hi)).ex
 obtain ⟨dvs,dus,dds,hb,hd,hdd,hF⟩:=hn es'.length
 refine PE.wk (DL F B.room hg hm hk hb hd B.pas ha hdb he hpl) ?_
 rintro σ H Q ⟨m,st,ρ,r,en,q⟩
 simp only [xE] at q
 refine ⟨m,st,ρ,r,en,ay (aG q) (fun _ _ z=>z) fun xs st1 ex hx m1 H1 vs g1 r1 dv=>?_⟩
 have h1:=Po.sh hx g1
 rw [hF _ _ (zQ ex)] at h1
 exact ⟨m1,st1,xs++dds,r1,dv.append (hdd _ _),ay h1 (fun c s z m' H' g r=>⟨c,rfl,z m' H' g r⟩) fun _ _ _ z=>z⟩
theorem zp:PTs X [] (lIf (zt X cl) Φ Ex []):=by
 rintro pins s σ H Q I ⟨m,st,ρ,r,en,q⟩
 simp only [xIf] at q
 exact wpAny_tests_nil ⟨H,I,q m H (Go.refl m H) r⟩
theorem zP:PO X none (lP (zt X cl) Φ Ex .cN):=by
 refine PO.wk Ea ?_
 rintro σ H Q ⟨m,st,ρ,r,en,q⟩
 simp only [xE] at q
 obtain ⟨o,e,q⟩:=q
 cases e
 exact q m H (Go.refl m H) r
end
end Sv
namespace Sv
open PySem PySem.Spec PyProof.Rows L2
open Ev (D aZ bp ai kf j7 eN slot slot_get iY j1 kC mh jy fX ky bc oq mY PTs mE oJ BH Ite dC ub nC)
section
variable {Φ:Fn} {cl:Nat→Addr} {CX:CXT} {k:Nat}
theorem Bz {X:Cx} {Ex:Nat→Hp→Prop} (ng c:Bool):OpR X (compareOp (if ng then .IsNot else .Is)) (fun x y H Q=>∃ m d,y=.bl c∧bK (zt X cl) m H x d∧Q (.bl (ng ^^ A4 c d)) H):=by
 rintro pins s σ H x y v u Q I rx ry ⟨m,d,hy,dx,q⟩
 subst hy
 cases (show u=Value.bool c from ry)
 have pl:plainIs v (.bool c)=true∧(v == Value.bool c)=A4 c d:=by
   cases dx with
   | non=>cases (show v=Value.none from rx); exact ⟨rfl,rfl⟩
   | @bl bb=>cases (show v=Value.bool bb from rx); exact ⟨rfl,by cases bb <;> cases c <;> rfl⟩
   | int=>obtain ⟨t,z⟩:=(show ∃ t,v=Value.int _ t from rx); cases z; exact ⟨rfl,rfl⟩
   | str=>obtain ⟨t,z⟩:=(show ∃ t,v=Value.str _ t from rx); cases z; exact ⟨rfl,rfl⟩
   | tup _ _=>cases (show v=Value.ref _ from rx); exact ⟨rfl,rfl⟩
   | loc _=>cases (show v=Value.ref _ from rx); exact ⟨rfl,rfl⟩
   | exo _=>cases (show v=Value.ref _ from rx); exact ⟨rfl,rfl⟩
   | kl _ _=>cases (show v=Value.ref _ from rx); exact ⟨rfl,rfl⟩
 cases ng with
 | true=>
   refine wpAny_isNot_plain pl.1 ⟨.bl _,H,I,?_,q⟩
   rw [pl.2]
   show Value.bool _=Value.bool _
   cases A4 c d <;> rfl
 | false=>
   refine wpAny_is_plain pl.1 ⟨.bl _,H,I,?_,q⟩
   rw [pl.2]
   show Value.bool _=Value.bool _
   cases A4 c d <;> rfl
theorem Dx {X:Cx} (ng:Bool):OpR X (compareOp (if ng then .IsNot else .Is)) (fun x y H Q=>∃ m d,y=.non∧bK (zt X cl) m H x d∧Q (.bl (ng ^^ A2 d)) H):=by
 rintro pins s σ H x y v u Q I rx ry ⟨m,d,hy,dx,q⟩
 subst hy
 have hd:decide (x=.non)=A2 d:=by cases dx <;> rfl
 cases ng with
 | true=>exact Ec pins s σ H _ _ v u Q I rx ry ⟨rfl,by rw [hd]; cases h:A2 d <;> rw [h] at q <;> exact q⟩
 | false=>exact Hl pins s σ H _ _ v u Q I rx ry ⟨rfl,by rw [hd]; cases h:A2 d <;> rw [h] at q <;> exact q⟩
theorem zm {T:Tr} {n:Nat} {e:Expr} {e':E} (h:trE T n e=some e') (o:CmpOp):behindInMarks o e=false:=by
 cases n with
 | zero=>rw [trE] at h; cases h
 | succ n=>rw [trE] at h; cases e <;> first | rfl | (simp [stE.eq_def] at h)
theorem jt:∀ (n:Nat) {X:Cx} {T:Tr} {Ex:Nat→Hp→Prop},Bg X T Φ cl CX Ex k→Snd X T Φ cl Ex n
 | 0,X,T,Ex,B=>⟨(fun _ _ h=>by exact cc (show (none:Option E)=some _ from h)),(fun _ _ _ _ h=>by exact cc (show (none:Option E)=some _ from h)),(fun _ _ h=>by simp [jz] at h),(fun e e' h=>by
     cases e with
     | none=>simp only [trP,Option.some.injEq] at h; subst h; exact zP
     | some e=>simp [trP] at h),(fun es es' h=>by
     cases es with
     | nil=>simp only [vM,Option.some.injEq] at h; subst h; exact zp
     | cons a r=>simp [vM] at h),(fun _ _ _ h=>by unfold trI at h; cases h)⟩
 | n + 1,X,T,Ex,B=>by
   have S:=jt n B
   have val:∀ pe e,PE X pe (lE (zt X cl) Φ Ex e)→(∀ whole,isTrue pe X.env whole=(do let v ← whole; standAt pe.pos; holding [v] (truthy v)))→PE X pe (lE (zt X cl) Φ Ex e)∧PT X pe (lT (zt X cl) Φ Ex e):=
     fun pe e h he=>⟨h,PT.wk (Hv h he) fun σ H Q ⟨m,st,ρ,r,en,q⟩=>⟨m,st,ρ,r,en,q.po⟩⟩
   have W1:∀ op vs pos e,trE T (n + 1) (.BoolOp op vs pos)=some e→PE X (.BoolOp op vs pos) (lE (zt X cl) Φ Ex e)∧PW X (.BoolOp op vs pos) (lT (zt X cl) Φ Ex e):=by
     intro op vs pos e h
     match op,vs with
     | op,[]=>cases op <;> exact cc (show (none:Option E)=some _ from h)
     | op,[a]=>
       have h':trE T n a=some e:=by cases op <;> simpa only [trE,stE.eq_def] using h
       obtain ⟨h1,h2⟩:=S.e a e h'
       refine ⟨JL h1,?_⟩
       cases op with
       | And=>exact pw_and1 h2
       | Or=>exact pw_or1 h2
     | .And,a :: b :: rs=>
       simp only [trE,stE.eq_def,Option.bind_eq_some_iff,Option.some.injEq] at h
       obtain ⟨a',h1,b',h2,rfl⟩:=h
       obtain ⟨p1,p2⟩:=S.e a a' h1
       obtain ⟨q1,q2⟩:=S.e _ b' h2
       refine ⟨PE.wk (Gn p1 q1) ?_,PW.wk (pw_and p2 (S.w _ _ _ _ h2)) ?_⟩
       · rintro σ H Q ⟨m,st,ρ,r,en,q⟩
         simp only [xE] at q
         refine dH r en q fun x st1 m1 H1 v g1 r1 en1 dv h1=>?_
         match x,h1 with
         | .bl true,h1=>exact ⟨true,jN dv,sj ⟨m1,st1,ρ,r1,en1,h1⟩⟩
         | .bl false,h1=>exact ⟨false,jN dv,rY (Po.ok h1 r1 .bl)⟩
       · rintro σ H Q ⟨m,st,ρ,r,en,q⟩
         simp only [xE] at q
         refine me r en q (fun x st hx=>by cases x <;> first | rfl | exact absurd rfl (hx _)) fun b st1 m1 H1 g1 r1 en1 h1=>?_
         cases b with
         | true=>exact sj ⟨m1,st1,ρ,r1,en1,h1⟩
         | false=>obtain ⟨b,eb,h1⟩:=h1; cases eb; exact rY (h1 m1 H1 (Go.refl _ _) r1)
     | .Or,a :: b :: rs=>
       simp only [trE,stE.eq_def,Option.bind_eq_some_iff,Option.some.injEq] at h
       obtain ⟨a',h1,b',h2,rfl⟩:=h
       obtain ⟨p1,p2⟩:=S.e a a' h1
       obtain ⟨q1,q2⟩:=S.e _ b' h2
       refine ⟨PE.wk (Km p1 q1) ?_,PW.wk (pw_or p2 (S.w _ _ _ _ h2)) ?_⟩
       · rintro σ H Q ⟨m,st,ρ,r,en,q⟩
         simp only [xE] at q
         refine dH r en q fun x st1 m1 H1 v g1 r1 en1 dv h1=>?_
         match x,h1 with
         | .bl false,h1=>exact ⟨false,jN dv,rY ⟨m1,st1,ρ,r1,en1,h1⟩⟩
         | .bl true,h1=>exact ⟨true,jN dv,sj (Po.ok h1 r1 .bl)⟩
       · rintro σ H Q ⟨m,st,ρ,r,en,q⟩
         simp only [xE] at q
         refine me r en q (fun x st hx=>by cases x <;> first | rfl | exact absurd rfl (hx _)) fun b st1 m1 H1 g1 r1 en1 h1=>?_
         cases b with
         | false=>exact rY ⟨m1,st1,ρ,r1,en1,h1⟩
         | true=>obtain ⟨b,eb,h1⟩:=h1; cases eb; exact sj (h1 m1 H1 (Go.refl _ _) r1)
   refine ⟨?_,fun op vs pos e h=>(W1 op vs pos e h).2,Ck S,?_,?_,GG B S⟩
   case refine_2=>
     intro e e' h
     cases e with
     | none=>simp only [trP,Option.some.injEq] at h; subst h; exact zP
     | some e=>
       simp only [trP,Option.bind_eq_some_iff] at h
       obtain ⟨e1,h1,h2⟩:=h
       have hne:e'=e1∧e1 ≠ .cN:=by
         split at h2
         · cases h2
         · rename_i hn
           cases h2
           exact ⟨rfl,hn⟩
       obtain ⟨rfl,hn⟩:=hne
       refine PO.wk (FD (S.e _ _ h1).1) ?_
       rintro σ H Q ⟨m,st,ρ,r,en,q⟩
       refine ⟨m,st,ρ,r,en,ay q (fun _ _ z=>z) fun d st1 _ ⟨o,bb,q⟩ m1 H1 v g1 r1 dv=>?_⟩
       obtain ⟨i,rfl,rfl⟩:∃ i,d=.int i∧o=some i:=by
         unfold xy at bb
         split at bb
         · exact absurd rfl hn
         · cases bb; exact ⟨_,rfl,rfl⟩
         · cases bb
       exact ⟨i,pI dv,q m1 H1 g1 r1⟩
   case refine_3=>
     intro es es' h
     match es with
     | []=>simp only [vM,Option.some.injEq] at h; subst h; exact zp
     | [c]=>
       simp only [vM,Option.bind_eq_some_iff,Option.some.injEq] at h
       obtain ⟨c',h1,rfl⟩:=h
       rintro pins s σ H Q I ⟨m,st,ρ,r,en,q⟩
       simp only [xIf] at q
       refine wpAny_tests_one ((S.e _ _ h1).2 pins s σ H Q I ⟨m,st,ρ,r,en,ay (aG q) (fun _ _ z=>z) fun x st1 _ hx=>?_⟩)
       match x,hx with
       | .bl true,hx=>exact ⟨true,rfl,hx⟩
       | .bl false,hx=>exact ⟨false,rfl,hx⟩
     | _ :: _ :: _=>simp [vM] at h
   intro pe e h
   cases pe with
   | BoolOp op vs pos=>exact ⟨(W1 op vs pos e h).1,(W1 op vs pos e h).2.pt⟩
   | Name x pos=>
     simp only [trE,stE.eq_def] at h
     split at h
     · rename_i hg
       simp only [Option.bind_eq_some_iff,Option.some.injEq] at h
       obtain ⟨i,h1,rfl⟩:=h
       obtain ⟨t,hm⟩:=B.cst x i h1
       refine val _ _ (PE.wk (D9 (v:=.int i) (B.gl hg.1) hm ⟨t,rfl⟩ hg.2) ?_) (fun _=>rfl)
       rintro σ H Q ⟨m,st,ρ,r,en,q⟩
       simp only [xE] at q
       exact Po.ok q r .int
     · simp only [Option.bind_eq_some_iff,Option.some.injEq] at h
       obtain ⟨i,h1,rfl⟩:=h
       obtain ⟨v1,v2,v3,v4⟩:=B.vis h1
       refine val _ _ (PE.wk (J2 v1 (nC v2) v3 v4) ?_) (fun _=>rfl)
       rintro σ H Q ⟨m,st,ρ,r,en,q⟩
       simp only [xE,rA] at q
       split at q
       · rename_i hz
         obtain ⟨v,g1,g2⟩:=en.get i _ hz
         exact ⟨v,g1,Po.ok q r g2⟩
       · exact q.elim
   | Constant c kk pos=>
     have cst:∀ (v:V) (e:E) (d:U),(∀ ρ st,xE Φ e ρ st=.ok d st)→(∀ m H,bK (zt X cl) m H v d)→∀ σ H Q,lE (zt X cl) Φ Ex e σ H Q→tC v σ H Q:=fun v e d h1 h2 σ H Q ⟨m,st,ρ,r,en,q⟩=>by
       rw [h1] at q
       exact Po.ok q r (h2 _ _)
     cases c <;> simp only [trE,stE.eq_def,Option.some.injEq,reduceCtorEq] at h <;> subst h
     case none=>exact val _ _ (PE.wk yb (cst _ _ .non (fun _ _=>by simp only [xE]) fun _ _=>.non)) (fun _=>rfl)
     case bool b=>exact val _ _ (PE.wk Bp (cst _ _ (.bl b) (fun _ _=>by simp only [xE]) fun _ _=>.bl)) (fun _=>rfl)
     case int i=>exact val _ _ (PE.wk JM (cst _ _ (.int i) (fun _ _=>by simp only [xE]) fun _ _=>.int)) (fun _=>rfl)
     case str x=>exact val _ _ (PE.wk Jo (cst _ _ (.str x) (fun _ _=>by simp only [xE]) fun _ _=>.str)) (fun _=>rfl)
   | BinOp a o b pos=>
     simp only [trE,stE.eq_def,Option.bind_eq_some_iff,Option.some.injEq] at h
     obtain ⟨o',h0,a',h1,b',h2,rfl⟩:=h
     refine val _ _ (PE.wk (KS (Ii (cl:=cl) (Ex:=Ex) h0) (S.e _ _ h1).1 (S.e _ _ h2).1) ?_) (fun _=>rfl)
     rintro σ H Q ⟨m,st,ρ,r,en,q⟩
     simp only [xE] at q
     exact uL r en q
   | UnaryOp o a pos=>
     cases o <;> simp only [trE,stE.eq_def,Option.bind_eq_some_iff,Option.some.injEq,reduceCtorEq] at h
     case USub=>
       obtain ⟨a',h1,rfl⟩:=h
       refine val _ _ (PE.wk (Lp IF (S.e _ _ h1).1) ?_) (fun _=>rfl)
       rintro σ H Q ⟨m,st,ρ,r,en,q⟩
       simp only [xE] at q
       refine dH r en q fun x st1 m1 H1 v g1 r1 en1 dv h1=>?_
       match x,h1 with
       | .int i,h1=>exact ⟨i,pI dv,Po.ok h1 r1 .int⟩
     case Not=>
       obtain ⟨a',h1,rfl⟩:=h
       refine ⟨PE.wk (Ig (S.e _ _ h1).1) ?_,PT.wk (IM (S.e _ _ h1).2) ?_⟩
       · rintro σ H Q ⟨m,st,ρ,r,en,q⟩
         simp only [xE] at q
         refine dH r en q fun x st1 m1 H1 v g1 r1 en1 dv h1=>?_
         match x,h1 with
         | .bl b,h1=>exact ⟨b,jN dv,Po.ok h1 r1 .bl⟩
       · rintro σ H Q ⟨m,st,ρ,r,en,q⟩
         simp only [xE] at q
         refine me r en q (fun x st hx=>by cases x <;> first | rfl | exact absurd rfl (hx _)) fun b st1 m1 H1 g1 r1 en1 h1=>?_
         obtain ⟨b',eb,h1⟩:=h1
         cases eb
         exact h1 m1 H1 (Go.refl _ _) r1
   | Compare a os bs pos=>
     match os,bs with
     | [o],[b]=>
       have cmp:∀ e,((trC o).bind fun o'=>(trE T n a).bind fun a'=>(trE T n b).bind fun b'=>some (.cmp o' a' b'))=some e→PE X (.Compare a [o] [b] pos) (lE (zt X cl) Φ Ex e)∧PT X (.Compare a [o] [b] pos) (lT (zt X cl) Φ Ex e):=by
         intro e h
         simp only [Option.bind_eq_some_iff,Option.some.injEq] at h
         obtain ⟨o',h0,a',h1,b',h2,rfl⟩:=h
         have hm:behindInMarks o b=false:=zm h2 o
         refine ⟨PE.wk (tu (oa (cl:=cl) (Ex:=Ex) B.room.units h0) (S.e _ _ h1).1 (S.e _ _ h2).1 hm) ?_,PT.wk (t9 (oa (cl:=cl) (Ex:=Ex) B.room.units h0) (S.e _ _ h1).1 (S.e _ _ h2).1 hm) ?_⟩
         · rintro σ H Q ⟨m,st,ρ,r,en,q⟩
           simp only [xE] at q
           exact uL r en q
         · rintro σ H Q ⟨m,st,ρ,r,en,q⟩
           simp only [xE] at q
           exact uL r en q.po
       have isb:∀ (ng c:Bool) (a':E) (kk:Nat) (pp:Pos),trE T n a=some a'→b=.Constant (.bool c) kk pp→o=(if ng then .IsNot else .Is)→PE X (.Compare a [o] [b] pos) (lE (zt X cl) Φ Ex (.isB ng a' c))∧PT X (.Compare a [o] [b] pos) (lT (zt X cl) Φ Ex (.isB ng a' c)):=by
         intro ng c a' kk pp h1 hb ho
         subst hb ho
         have hm:behindInMarks (if ng then .IsNot else .Is) (.Constant (.bool c) kk pp)=false:=by cases ng <;> rfl
         refine ⟨PE.wk (tu (Bz (cl:=cl) (Ex:=Ex) ng c) (S.e _ _ h1).1 Bp hm) ?_,PT.wk (t9 (Bz (cl:=cl) (Ex:=Ex) ng c) (S.e _ _ h1).1 Bp hm) ?_⟩
         · rintro σ H Q ⟨m,st,ρ,r,en,q⟩
           simp only [xE] at q
           exact dH r en q fun x st1 m1 H1 v g1 r1 en1 dv h1=>⟨m1,x,rfl,dv,Po.ok h1 r1 .bl⟩
         · rintro σ H Q ⟨m,st,ρ,r,en,q⟩
           simp only [xE] at q
           exact dH r en q.po fun x st1 m1 H1 v g1 r1 en1 dv h1=>⟨m1,x,rfl,dv,Po.ok h1 r1 .bl⟩
       have isn:∀ (ng:Bool) (a':E) (kk:Nat) (pp:Pos),trE T n a=some a'→b=.Constant .none kk pp→o=(if ng then .IsNot else .Is)→PE X (.Compare a [o] [b] pos) (lE (zt X cl) Φ Ex (.isN ng a'))∧PT X (.Compare a [o] [b] pos) (lT (zt X cl) Φ Ex (.isN ng a')):=by
         intro ng a' kk pp h1 hb ho
         subst hb ho
         have hm:behindInMarks (if ng then .IsNot else .Is) (.Constant .none kk pp)=false:=by cases ng <;> rfl
         refine ⟨PE.wk (tu (Dx (cl:=cl) ng) (S.e _ _ h1).1 yb hm) ?_,PT.wk (t9 (Dx (cl:=cl) ng) (S.e _ _ h1).1 yb hm) ?_⟩
         · rintro σ H Q ⟨m,st,ρ,r,en,q⟩
           simp only [xE] at q
           exact dH r en q fun x st1 m1 H1 v g1 r1 en1 dv h1=>⟨m1,x,rfl,dv,Po.ok h1 r1 .bl⟩
         · rintro σ H Q ⟨m,st,ρ,r,en,q⟩
           simp only [xE] at q
           exact dH r en q.po fun x st1 m1 H1 v g1 r1 en1 dv h1=>⟨m1,x,rfl,dv,Po.ok h1 r1 .bl⟩
       simp only [trE,stE.eq_def] at h
       split at h
       · simp only [Option.bind_eq_some_iff,Option.some.injEq] at h
         obtain ⟨a',h1,rfl⟩:=h
         exact isb false _ a' _ _ h1 rfl rfl
       · simp only [Option.bind_eq_some_iff,Option.some.injEq] at h
         obtain ⟨a',h1,rfl⟩:=h
         exact isb true _ a' _ _ h1 rfl rfl
       · simp only [Option.bind_eq_some_iff,Option.some.injEq] at h
         obtain ⟨a',h1,rfl⟩:=h
         exact isn false a' _ _ h1 rfl rfl
       · simp only [Option.bind_eq_some_iff,Option.some.injEq] at h
         obtain ⟨a',h1,rfl⟩:=h
         exact isn true a' _ _ h1 rfl rfl
       · exact cmp e h
     | [o,p],[b,c]=>
       simp only [trE,stE.eq_def,Option.bind_eq_some_iff,Option.some.injEq] at h
       obtain ⟨o',h0,p',h0',a',h1,b',h2,c',h3,rfl⟩:=h
       have hm:lastMarks [o,p] [b,c]=false:=zm h3 p
       have core:∀ σ H Q,lE (zt X cl) Φ Ex (.chain o' p' a' b' c') σ H Q→yg (rC (zt X cl) Ex o') (rC (zt X cl) Ex p') (lE (zt X cl) Φ Ex a') (lE (zt X cl) Φ Ex b') (lE (zt X cl) Φ Ex c') σ H Q:=by
         rintro σ H Q ⟨m,st,ρ,r,en,q⟩
         simp only [xE] at q
         refine dH r en q fun x st1 m1 H1 v g1 r1 en1 dv q1=>dH r1 en1 q1 fun y st2 m2 H2 u g2 r2 en2 du q2=>?_
         refine ⟨m2,st2,x,y,r2,dv.mono g2,du,?_⟩
         show Po _ _ _ _ _ (ofO (evC o' x y st2) st2)
         cases ho:evC o' x y st2 with
         | none=>rw [ho] at q2; exact q2.elim
         | some tt=>
           rw [ho] at q2
           intro m3 H3 w g3 r3 dw
           cases tt with
           | true=>
             refine ⟨true,jN dw,sj (dH r3 (en2.mono g3) (Po.sh q2 g3) fun z st4 m4 H4 w' g4 r4 en4 dw' q4=>?_)⟩
             exact ⟨m4,st4,y,z,r4,(du.mono g3).mono g4,dw',q4⟩
           | false=>exact ⟨false,jN dw,rY (Po.ok (Po.sh q2 g3) r3 .bl)⟩
       refine ⟨PE.wk (CK (oa (cl:=cl) (Ex:=Ex) B.room.units h0) (oa (cl:=cl) (Ex:=Ex) B.room.units h0') (S.e _ _ h1).1 (S.e _ _ h2).1 (S.e _ _ h3).1 hm) core,PT.wk (Bk (oa (cl:=cl) (Ex:=Ex) B.room.units h0) (oa (cl:=cl) (Ex:=Ex) B.room.units h0') (S.e _ _ h1).1 (S.e _ _ h2).1 (S.e _ _ h3).1 hm) ?_⟩
       rintro σ H Q ⟨m,st,ρ,r,en,q⟩
       exact core σ H _ ⟨m,st,ρ,r,en,q.po⟩
     | [],_=>exact cc (show (none:Option E)=some _ from h)
     | [_],[]=>exact cc (show (none:Option E)=some _ from h)
     | [_],_ :: _ :: _=>exact cc (show (none:Option E)=some _ from h)
     | [_,_],[]=>exact cc (show (none:Option E)=some _ from h)
     | [_,_],[_]=>exact cc (show (none:Option E)=some _ from h)
     | [_,_],_ :: _ :: _ :: _=>exact cc (show (none:Option E)=some _ from h)
     | _ :: _ :: _ :: _,_=>exact cc (show (none:Option E)=some _ from h)
   | IfExp c a b pos=>
     simp only [trE,stE.eq_def,Option.bind_eq_some_iff,Option.some.injEq] at h
     obtain ⟨c',h0,a',h1,b',h2,rfl⟩:=h
     have core:∀ σ H Q,lE (zt X cl) Φ Ex (.ite c' a' b') σ H Q→tIf (lT (zt X cl) Φ Ex c') (lE (zt X cl) Φ Ex a') (lE (zt X cl) Φ Ex b') σ H Q:=by
       rintro σ H Q ⟨m,st,ρ,r,en,q⟩
       simp only [xE] at q
       refine Er r en q (fun x st hx=>by cases x <;> first | rfl | exact absurd rfl (hx _)) fun bb st1 m1 H1 g1 r1 en1 q1=>?_
       cases bb with
       | true=>exact sj ⟨m1,st1,ρ,r1,en1,q1⟩
       | false=>exact rY ⟨m1,st1,ρ,r1,en1,q1⟩
     refine ⟨PE.wk (BC (S.e _ _ h0).2 (S.e _ _ h1).1 (S.e _ _ h2).1) core,?_⟩
     rintro pins s σ H Q I ⟨m,st,ρ,r,en,q⟩
     simp only [xE] at q
     show wpAny _ _ (do if ← isTrue c X.env (eval c X.env) then isTrue a X.env (eval a X.env) else isTrue b X.env (eval b X.env)) _ _ _
     have rd:lT (zt X cl) Φ Ex c' σ H (fun bb H1=>if bb=true then lT (zt X cl) Φ Ex a' σ H1 Q else lT (zt X cl) Φ Ex b' σ H1 Q):=by
       refine me r en q (fun x st hx=>by cases x <;> first | rfl | exact absurd rfl (hx _)) fun bb st1 m1 H1 g1 r1 en1 q1=>?_
       cases bb with
       | true=>exact sj ⟨m1,st1,ρ,r1,en1,q1⟩
       | false=>exact rY ⟨m1,st1,ρ,r1,en1,q1⟩
     refine wpAny_bind (thn ((S.e _ _ h0).2 pins s σ H _ I rd) ?_)
     rintro bb s1 ⟨H1,I1,hq⟩
     cases bb with
     | true=>rw [if_pos rfl] at hq; exact (S.e _ _ h1).2 pins s1 σ H1 Q I1 hq
     | false=>rw [if_neg (by decide)] at hq; exact (S.e _ _ h2).2 pins s1 σ H1 Q I1 hq
   | Tuple es kk pos=>
     simp only [trE,stE.eq_def,Option.bind_eq_some_iff,Option.some.injEq] at h
     obtain ⟨es',h1,rfl⟩:=h
     refine val _ _ (PE.wk (Hi (S.a _ _ h1)) ?_) (fun _=>rfl)
     rintro σ H Q ⟨m,st,ρ,r,en,q⟩
     simp only [xE] at q
     refine ml r en q fun xs st1 m1 H1 vs g1 r1 dv q1=>?_
     split at q1
     · exact ⟨by have:=dv.length; have:=Ev.cC; omega,fun p hp=>Po.tup q1 r1 dv hp⟩
     · exact q1.elim
   | List es pos=>
     simp only [trE,stE.eq_def,Option.bind_eq_some_iff,Option.some.injEq] at h
     obtain ⟨es',h1,rfl⟩:=h
     refine val _ _ (PE.wk (Gg (S.a _ _ h1)) ?_) (fun _=>rfl)
     rintro σ H Q ⟨m,st,ρ,r,en,q⟩
     simp only [xE] at q
     refine ml r en q fun xs st1 m1 H1 vs g1 r1 dv q1=>?_
     split at q1
     · exact ⟨by have:=dv.length; have:=Ev.cC; omega,fun p hp=>Po.new q1 r1 dv hp⟩
     · exact q1.elim
   | Subscript a i pos=>
     have plain:(∀ l u st p,i ≠ .Slice l u st p)→PE X (.Subscript a i pos) (lE (zt X cl) Φ Ex e)∧PT X (.Subscript a i pos) (lT (zt X cl) Φ Ex e):=by
       intro hi
       have hps:y7 i:=fun o v=>by cases i <;> first | rfl | exact absurd rfl (hi _ _ _ _)
       have h':((trE T n a).bind fun a'=>(trE T n i).bind fun i'=>some (.ix a' i'))=some e:=by
         cases i <;> first | exact absurd rfl (hi _ _ _ _) | (simpa only [trE,stE.eq_def] using h)
       simp only [Option.bind_eq_some_iff,Option.some.injEq] at h'
       obtain ⟨a',h1,i',h2,rfl⟩:=h'
       refine val _ _ (PE.wk (J7 (IQ (cl:=cl) (Ex:=Ex)) (S.e _ _ h1).1 (S.e _ _ h2).1 hps) ?_) (fun _=>rfl)
       rintro σ H Q ⟨m,st,ρ,r,en,q⟩
       simp only [xE] at q
       exact uL r en q
     cases i with
     | Slice lo hi st p2=>
       cases st with
       | some y=>exact cc (show (none:Option E)=some _ from h)
       | none=>
         simp only [trE,stE.eq_def,Option.bind_eq_some_iff,Option.some.injEq] at h
         obtain ⟨a',h1,l',h2,u',h3,rfl⟩:=h
         refine val _ _ (PE.wk (CC Eh (S.e _ _ h1).1 (S.p _ _ h2) (S.p _ _ h3)) ?_) (fun _=>rfl)
         rintro σ H Q ⟨m,st,ρ,r,en,q⟩
         simp only [xE] at q
         refine dH r en q fun x st1 m1 H1 v g1 r1 en1 dv q1=>?_
         refine ⟨m1,st1,ρ,r1,en1,ay (aG q1) (fun _ _ z=>z) fun y st2 _ q2=>?_⟩
         cases hy:xy l' y with
         | none=>rw [hy] at q2; exact q2.elim
         | some lo'=>
           rw [hy] at q2
           refine ⟨lo',rfl,fun m2 H2 g2 r2=>?_⟩
           refine ⟨m2,st2,ρ,r2,en1.mono g2,ay (aG q2) (fun c s z=>kE.sh g2 c s z) fun z st3 _ q3=>?_⟩
           cases hz:xy u' z with
           | none=>rw [hz] at q3; exact q3.elim
           | some hi'=>
             rw [hz] at q3
             refine ⟨hi',rfl,fun m3 H3 g3 r3=>?_⟩
             dsimp only at q3
             unfold DH at q3
             split at q3
             · rename_i xs e1
               obtain ⟨p,vs,rfl,s1,d1⟩:=jr r3 (dv.mono (g2.trans g3)) e1
               exact ⟨p,vs,rfl,s1,fun p' hp'=>Po.new (Po.sh q3 (g2.trans g3)) r3 (Eb d1 _ _) hp'⟩
             · exact q3.elim
     | _=>exact plain (fun _ _ _ _ z=>nomatch z)
   | Call f es ks pos=>
     obtain ⟨x,p,e0,es0,rfl,rfl,rfl⟩:∃ x p e0 es0,f=.Name x p∧es=e0 :: es0∧ks=[]:=by
       cases f with
       | Name x p=>
         cases es with
         | cons e0 es0=>
           cases ks with
           | nil=>exact ⟨_,_,_,_,rfl,rfl,rfl⟩
           | cons k ks=>exact cc (show (none:Option E)=some _ from h)
         | nil=>exact cc (show (none:Option E)=some _ from h)
       | _=>exact cc (show (none:Option E)=some _ from h)
     simp only [trE,stE.eq_def] at h
     split at h
     · rename_i hg
       have gl:=B.gl hg.1
       split at h
       · rename_i i hi
         simp only [Option.bind_eq_some_iff,Option.some.injEq] at h
         obtain ⟨es',h1,rfl⟩:=h
         exact val _ _ (Fu B hi gl hg.2 (S.a _ _ h1) (fE h1 _) (gh h1 _ _)) (fun _=>rfl)
       · split at h
         · rename_i hx
           subst hx
           split at h
           · rename_i t q
             split at h
             · rename_i hgt
               simp only [Option.bind_eq_some_iff,Option.some.injEq] at h
               obtain ⟨ty,h0,a',h1,rfl⟩:=h
               refine val _ _ (PE.wk (iE (Jk (cl:=cl) ty) gl (B.blt _ (by simp [aW])) (by decide +kernel) (hW (S.e _ _ h1).1 (hW (Kq B.blt h0 (B.gl hgt)) oe rfl) (ef h1 _ _)) (by decide) hg.2 (ef h1 _ _) rfl) ?_) (fun _=>rfl)
               rintro σ H Q ⟨m,st,ρ,r,en,q⟩
               simp only [xE] at q
               refine dH r en q fun x st1 m1 H1 v g1 r1 en1 dv q1=>?_
               have ne:(∀ c,x ≠ .exo c)∧Po (zt X cl) Ex m1 H1 Q (.ok (.bl (A5 ty x)) st1):=by
                 cases x <;> first | exact ⟨(by intro c z; cases z),q1⟩ | exact q1.elim
               exact ⟨m1,st1,v,x,r1,rfl,dv,ne.1,Po.ok ne.2 r1 .bl⟩
             · cases h
           · cases h
         · split at h
           · rename_i a ha
             obtain ⟨rfl,rfl,hgr,p,q,rfl⟩:=Di ha
             simp only [Option.bind_eq_some_iff,Option.some.injEq] at h
             obtain ⟨es',h1,rfl⟩:=h
             refine val _ _ (PE.wk (IL (cl:=cl) (Ex:=Ex) B.calm B.blt gl (B.gl hgr) (S.a _ _ h1) (fE h1 _)) ?_) (fun _=>rfl)
             rintro σ H Q ⟨m,st,ρ,r,en,q⟩
             simp only [xE] at q
             exact ml r en q fun xs st1 m1 H1 vs g1 r1 dv q1=>⟨m1,st1,xs,r1,dv,q1⟩
           simp only [Option.bind_eq_some_iff,Option.some.injEq] at h
           obtain ⟨b,h0,es',h1,rfl⟩:=h
           refine val _ _ (PE.wk (KQ (cl:=cl) (Ex:=Ex) B.calm B.blt h0 gl (S.a _ _ h1) (fE h1 _) (gh h1 _ _)) ?_) (fun _=>rfl)
           rintro σ H Q ⟨m,st,ρ,r,en,q⟩
           simp only [xE] at q
           exact ml r en q fun xs st1 m1 H1 vs g1 r1 dv q1=>⟨m1,st1,xs,r1,dv,q1⟩
     · cases h
   | ListComp elt gens scope pos=>
     match gens with
     | [⟨tg,iter,ifs,asy⟩]=>
       simp only [trE,stE.eq_def] at h
       split at h
       · rename_i hb0
         obtain ⟨rfl,hb⟩:=hb0
         simp only [Option.bind_eq_some_iff] at h
         obtain ⟨t,h1,it,h2,fs,h3,e',h4,h5⟩:=h
         split at h5
         · rename_i ho
           cases h5
           exact val _ _ (B5 B S (fun B'=>jt n B') hb h1 h2 h3 h4 ho) (fun _=>rfl)
         · cases h5
       · cases h
     | []=>exact cc (show (none:Option E)=some _ from h)
     | ⟨_,_,_,_⟩ :: _ :: _=>exact cc (show (none:Option E)=some _ from h)
   | _=>exact cc (show (none:Option E)=some _ from h)
end
end Sv
namespace Sv
open PySem PySem.Spec PyProof.Rows L2
open Ev (D aZ bp ai kf j7 eN slot slot_get iY j1 nC)
section
variable {X:Cx} {cl:Nat→Addr}
theorem Cw {α:Type}:∀ (its:List α) (k:Nat) (y:α),k≤its.length→its.insertIdx k y=its.take k++[y]++its.drop k
 | _,0,_,_=>rfl
 | a :: r,k + 1,y,h=>by
   rw [List.insertIdx_succ_cons,Cw r k y (by simpa using h)]
   rfl
theorem II {its:List Value} {k:Nat} {y:Value} (h:k≤its.length):(its.toArray.extract 0 k).push y++its.toArray.extract k=(its.insertIdx k y).toArray:=by
 apply Array.toList_inj.mp
 simp only [Array.toList_append,Array.toList_push,Array.toList_extract,List.extract_eq_drop_take,List.drop_zero,Nat.sub_zero,List.size_toArray]
 rw [Cw its k y h]
 congr 1
 exact List.take_of_length_le (by rw [List.length_drop]; exact Nat.le_refl _)
noncomputable def DP:V→List V→Hp→VK→Prop:=fun x vs H Q=>∃ l xs,∃ i:Int,∃ y,x=.ref l∧vs=[.int i,y]∧H l=some (.lst xs)∧0≤i∧i.toNat≤xs.length∧xs.length < sizeLine∧Q .non (upd H l (.lst (xs.insertIdx i.toNat y)))
theorem AN:MtM X "list.insert" DP:=by
 intro pins s σ H x vs v us Q I rx rv h
 obtain ⟨l,xs,i,y,rfl,rfl,hH,h0,h1,h2,q⟩:=h
 cases rx
 obtain ⟨u,w,rfl,ru,rw'⟩:=rv.two
 obtain ⟨t,rfl⟩:=ru
 obtain ⟨z,its,n,r,hl,e⟩:=I.xq hH
 have hi:i < 2 ^ 63:=by have:=Int.toNat_of_nonneg h0; have:sizeLine < 2 ^ 62:=(by decide); omega
 have hf:Builtin.List.listFitsIndex i=true:=by
   unfold Builtin.List.listFitsIndex
   rw [Bool.and_eq_true]
   exact ⟨decide_eq_true (by omega),decide_eq_true hi⟩
 refine call_meets PySem.F.slot_list_insert ⟨_,e,rfl⟩ PySem.F.entry_list_insert (PySem.F.args_list_insert_3 _ _ _) (PySem.AutoSeq1.list_insert_list_int_val_1 l its.toArray n i t w (by simp [hf]) (by rw [List.size_toArray]; omega)) ⟨e,?_⟩
 have vi:∀ {xs:List V} {us:List Value} (k:Nat) {a:V} {b:Value},Vals xs us→RelV a b→Vals (xs.insertIdx k a) (us.insertIdx k b):=fun {xs us} k {a b} r ra=>by
   induction k generalizing xs us with
   | zero=>exact .cons ra r
   | succ k ih=>cases r with
     | nil=>exact .nil
     | cons r1 r2=>exact .cons r1 (ih r2)
 refine ⟨.non,_,I.AO (its':=its.insertIdx i.toNat w) hH e ?_ (vi _ r rw') ?_,rfl,q⟩
 · show (its.toArray.extract 0 (if i < 0 then (i + (its.toArray.size:Int)).toNat else min i.toNat its.toArray.size)).push w++its.toArray.extract (if i < 0 then (i + (its.toArray.size:Int)).toNat else min i.toNat its.toArray.size)=_
   rw [if_neg (by omega),List.size_toArray,Nat.min_eq_left (by omega)]
   exact II (by omega)
 · rw [List.length_insertIdx_of_le_length h1]; omega
noncomputable def rM (Z:Zt) (lm:Lm):V→List V→Hp→VK→Prop:=fun x vs H Q=>∃ m st a ds st',R Z m st H∧bK Z m H x a∧au Z m H vs ds∧evM lm a ds st=some st'∧∀ v H',Go m H m H'→R Z m st' H'→Q v H'
theorem lW {Z:Zt} {m:List Addr} {st:Sto} {H:Hp} (r:R Z m st H) {x:V} {l:Nat} {xs:List U} (d:bK Z m H x (.loc l)) (e:st[l]?=some (false,xs)):∃ a vs,x=.ref a∧m[l]?=some a∧H a=some (.lst vs)∧au Z m H vs xs:=by
 obtain ⟨a,rfl,hl⟩:=mn d
 obtain ⟨b,vs,f1,f2,f3⟩:=r.at e
 rw [hl] at f1; cases f1
 unfold Lay at f2
 rw [if_neg (by decide)] at f2
 exact ⟨_,vs,rfl,hl,f2,f3⟩
theorem Cz:MtR X "list.append" (rM (zt X cl) .append):=by
 rintro pins s σ H x vs v us Q I rx rv ⟨m,st,a,ds,st',r,dx,dn,e,q⟩
 match a,ds,e with
 | .loc l,[d],e=>
   simp only [evM.eq_def] at e
   split at e
   · rename_i xs hs
     split at e
     · rename_i hl
       cases e
       obtain ⟨p,ws,rfl,f1,f2,f3⟩:=lW r dx hs
       obtain ⟨y,rfl,dy⟩:=mz dn
       obtain ⟨g,r'⟩:=r.put f1 hs (f3.append (.cons dy .nil))
       exact oi pins s σ H _ _ v us Q I rx rv ⟨p,ws,y,rfl,rfl,f2,by have:=f3.length; have:=Ev.cC; omega,q _ _ g r'⟩
     · cases e
   · cases e
theorem Co:MtR X "list.extend" (rM (zt X cl) .extend):=by
 rintro pins s σ H x vs v us Q I rx rv ⟨m,st,a,ds,st',r,dx,dn,e,q⟩
 match a,ds,e with
 | .loc l,[.loc j],e=>
   simp only [evM.eq_def] at e
   split at e
   · rename_i xs ys hs hs2
     split at e
     · rename_i hl
       cases e
       obtain ⟨p,ws,rfl,f1,f2,f3⟩:=lW r dx hs
       obtain ⟨y,rfl,dy⟩:=mz dn
       obtain ⟨p2,ws2,rfl,k1,k2,k3⟩:=lW r dy hs2
       obtain ⟨g,r'⟩:=r.put f1 hs (f3.append k3)
       exact zY pins s σ H _ _ v us Q I rx rv ⟨p,p2,ws,ws2,rfl,rfl,f2,k2,by have:=f3.length; have:=k3.length; have:=Ev.cC; omega,q _ _ g r'⟩
     · cases e
   · cases e
theorem Bf:MtR X "list.insert" (rM (zt X cl) .insert):=by
 rintro pins s σ H x vs v us Q I rx rv ⟨m,st,a,ds,st',r,dx,dn,e,q⟩
 match a,ds,e with
 | .loc l,[.int i,d],e=>
   simp only [evM.eq_def] at e
   split at e
   · rename_i xs hs
     split at e
     · rename_i hl
       cases e
       obtain ⟨p,ws,rfl,f1,f2,f3⟩:=lW r dx hs
       obtain ⟨y1,y2,rfl,dy1,dy2⟩:=Ho dn
       cases dy1
       obtain ⟨g,r'⟩:=r.put f1 hs (f3.insert i.toNat dy2)
       have l3:=f3.length
       exact AN pins s σ H _ _ v us Q I rx rv ⟨p,ws,i,y2,rfl,rfl,f2,hl.2.1,by have:=hl.2.2; omega,by have:=hl.1; have:=Ev.cC; omega,q _ _ g r'⟩
     · cases e
   · cases e
theorem Lw:MtR X "list.pop" (rM (zt X cl) .pop):=by
 rintro pins s σ H x vs v us Q I rx rv ⟨m,st,a,ds,st',r,dx,dn,e,q⟩
 match a,ds,e with
 | .loc l,[],e=>
   simp only [evM.eq_def] at e
   split at e
   · rename_i xs hs
     split at e
     · cases e
     · rename_i hn
       cases e
       obtain ⟨p,ws,rfl,f1,f2,f3⟩:=lW r dx hs
       cases dn
       obtain ⟨g,r'⟩:=r.put f1 hs f3.dropLast
       have l3:=f3.length
       have hl:ws.length - 1 < ws.length:=by
         have:xs.length ≠ 0:=fun z=>hn (List.eq_nil_of_length_eq_zero z)
         omega
       exact Gs pins s σ H _ _ v us Q I rx rv ⟨p,ws,ws[ws.length - 1],rfl,rfl,f2,List.getElem?_eq_getElem hl,q _ _ g r'⟩
   · cases e
theorem Ee:MtR X "list.pop" (rM (zt X cl) .popAt):=by
 rintro pins s σ H x vs v us Q I rx rv ⟨m,st,a,ds,st',r,dx,dn,e,q⟩
 match a,ds,e with
 | .loc l,[.int i],e=>
   simp only [evM.eq_def] at e
   split at e
   · rename_i xs hs
     split at e
     · rename_i hlm
       obtain ⟨j,hj,rfl⟩:=Option.map_eq_some_iff.mp e
       obtain ⟨p,ws,rfl,f1,f2,f3⟩:=lW r dx hs
       obtain ⟨y,rfl,dy⟩:=mz dn
       cases dy
       obtain ⟨g,r'⟩:=r.put f1 hs (f3.erase j)
       have l3:=f3.length
       obtain ⟨h1,h2,h3,h4⟩:=tE hj
       have:ai < 2 ^ 62:=by decide
       exact Dy pins s σ H _ _ v us Q I rx rv ⟨p,ws,i,j,ws[j]'(by omega),rfl,rfl,f2,by omega,by omega,by rw [l3]; exact h1,List.getElem?_eq_getElem (by omega),q _ _ g r'⟩
     · cases e
   · cases e
theorem Fw:MtR X "list.clear" (rM (zt X cl) .clear):=by
 rintro pins s σ H x vs v us Q I rx rv ⟨m,st,a,ds,st',r,dx,dn,e,q⟩
 match a,ds,e with
 | .loc l,[],e=>
   simp only [evM.eq_def] at e
   split at e
   · rename_i xs hs
     cases e
     obtain ⟨p,ws,rfl,f1,f2,f3⟩:=lW r dx hs
     cases dn
     obtain ⟨g,r'⟩:=r.put f1 hs (au.nil)
     exact BW pins s σ H _ _ v us Q I rx rv ⟨p,ws,rfl,rfl,f2,q _ _ g r'⟩
   · cases e
noncomputable def trM (m:Str) (n:Nat):Option Lm:=
 if m = "append" ∧ n=1 then some .append else if m = "extend" ∧ n=1 then some .extend else if m = "insert" ∧ n=2 then some .insert else
 if m = "pop" ∧ n=0 then some .pop else if m = "pop" ∧ n=1 then some .popAt else if m = "clear" ∧ n=0 then some .clear else none
noncomputable def isNm:Expr→Bool
 | .Name _ _=>true
 | _=>false
noncomputable def uO:Expr→Bool
 | .Tuple _ _ _=>false
 | _=>true
noncomputable def stS (T:Tr) (rE:Expr→Option E) (rEs:List Expr→Option (List E)) (rI:Expr→Option It) (rS:List Stmt→Option (List S)):Stmt→Option S
 | .Assign [.Subscript a i p] e _=>if uO i=true then (rE e).bind fun e'=>(rE a).bind fun a'=>(rE i).bind fun i'=>some (.put a' i' e') else none
 | .Assign [tg] e _=>if uO e=true∨isNm tg=true then (ma T tg).bind fun t=>(rE e).bind fun e'=>some (.set t e') else none
 | .Return (some e) _=>(rE e).bind fun e'=>some (.ret e')
 | .Return none _=>some .retN
 | .If c a b _=>(rE c).bind fun c'=>(rS a).bind fun a'=>(rS b).bind fun b'=>some (.ite c' a' b')
 | .For tg it body [] _=>(ma T tg).bind fun t=>(rI it).bind fun it'=>(rS body).bind fun b'=>if vX tg it'=true then some (.for t it' b') else none
 | .While c body [] _=>(rE c).bind fun c'=>(rS body).bind fun b'=>some (.while c' b')
 | .Expr (.Call (.Attribute o m apos) es [] cpos) _=>
   if (apos.endLine == cpos.line)=true then (trM m es.length).bind fun lm=>(rE o).bind fun o'=>(rEs es).bind fun es'=>some (.mth lm o' es') else none
 | .Expr (.Call (.Name f p) es ks q) _=>(rE (.Call (.Name f p) es ks q)).bind fun e'=>some (.expr e')
 | .Break _=>some .brk
 | .Continue _=>some .cont
 | .Pass _=>some .pas
 | .Raise _ _ _=>some .nev
 | _=>none
mutual
noncomputable def trS (T:Tr):Nat→Stmt→Option S
 | 0,_=>none
 | n + 1,s=>stS T (fun e=>trE T n e) (fun es=>jz T n es) (fun i=>trI T n i) (fun ss=>dJ T n ss) s
noncomputable def dJ (T:Tr):Nat→List Stmt→Option (List S)
 | 0,_=>none
 | _ + 1,[]=>some []
 | n + 1,s :: ss=>(trS T n s).bind fun s'=>(dJ T n ss).bind fun ss'=>some (s' :: ss')
end
end
end Sv
namespace Sv
open PySem PySem.Spec PyProof.Rows L2
open Ev (D aZ bp ai kf j7 eN slot slot_get iY j1 nC)
noncomputable def kF (Z:Zt) (m:List Addr) (H:Hp) (D:Ends):Fl→Sto→Prop
 | .nx ρ,st'=>∀ m' H' σ',Go m H m' H'→R Z m' st' H'→cH Z m' H' σ' ρ→D.nx σ' H'
 | .rt d,st'=>∀ m' H' v,Go m H m' H'→R Z m' st' H'→bK Z m' H' v d→D.rt v H'
 | .bk ρ,st'=>∀ m' H' σ',Go m H m' H'→R Z m' st' H'→cH Z m' H' σ' ρ→D.bk σ' H'
 | .ct ρ,st'=>∀ m' H' σ',Go m H m' H'→R Z m' st' H'→cH Z m' H' σ' ρ→D.ct σ' H'
theorem kF.sh {Z:Zt} {m m1:List Addr} {H H1:Hp} {D:Ends} (g:Go m H m1 H1):∀ f st,kF Z m H D f st→kF Z m1 H1 D f st
 | .nx _,_,h=>fun m' H' σ' g'=>h m' H' σ' (g.trans g')
 | .rt _,_,h=>fun m' H' v g'=>h m' H' v (g.trans g')
 | .bk _,_,h=>fun m' H' σ' g'=>h m' H' σ' (g.trans g')
 | .ct _,_,h=>fun m' H' σ' g'=>h m' H' σ' (g.trans g')
noncomputable abbrev PoF (Z:Zt) (Ex:Nat→Hp→Prop) (m:List Addr) (H:Hp) (D:Ends) (x:Rs Fl):Prop:=post (kE Z Ex m H) (kF Z m H D) x
theorem PoF.sh {Z:Zt} {Ex:Nat→Hp→Prop} {m m1:List Addr} {H H1:Hp} {D:Ends} {x:Rs Fl} (h:PoF Z Ex m H D x) (g:Go m H m1 H1):PoF Z Ex m1 H1 D x:=ay h (kE.sh g) fun a st _=>kF.sh g a st
section
variable (Z:Zt) (Φ:Fn) (Ex:Nat→Hp→Prop) (n:Nat)
noncomputable def lS (s:S):TS:=fun D σ H=>∃ m st ρ,R Z m st H∧cH Z m H σ ρ∧PoF Z Ex m H D (xS Φ n s ρ st)
noncomputable def lSs (ss:List S):TS:=fun D σ H=>∃ m st ρ,R Z m st H∧cH Z m H σ ρ∧PoF Z Ex m H D (xSs Φ n ss ρ st)
end
section
variable {X:Cx} {T:Tr} {Φ:Fn} {cl:Nat→Addr} {CX:CXT} {Ex:Nat→Hp→Prop} {k:Nat}
theorem PS.wk {e:Stmt} {t t':TS} (h:PS X e t) (f:∀ E σ H,t' E σ H→t E σ H):PS X e t':=fun pins s σ H E I q=>h pins s σ H E I (f E σ H q)
theorem PSs.wk {e:List Stmt} {t t':TS} (h:PSs X e t) (f:∀ E σ H,t' E σ H→t E σ H):PSs X e t':=fun pins s σ H E I q=>h pins s σ H E I (f E σ H q)
theorem PS.nox {st:Stmt} {t:TS} (h:PS X.nox st t):PS X st t:=fun pins s σ H D I hw=>
 wpAny_mono (h pins s σ H D (I.qG _) hw) (fun _ _ q=>q.jA) fun _ _ z=>False.elim z
theorem Bg.nox (B:Bg X T Φ cl CX Ex k):Bg X.nox T Φ cl CX (fun _ _=>False) k:=
 ⟨B.sc,B.nm,B.nd,B.calm,B.room,B.blt,B.cal,B.fn,B.cst,B.cxn,IY B.cxn⟩
theorem ia {Z:Zt} {m:List Addr} {st:Sto} {ρ:Env} {H:Hp} {σ:L2.St} {D:Ends} {Q1:VK} {a:E} {f:U→Sto→Rs Fl} (r:R Z m st H) (en:cH Z m H σ ρ) (h:PoF Z Ex m H D ((xE Φ a ρ st).bind f))
   (k:∀ x st1 m1 H1 v,Go m H m1 H1→R Z m1 st1 H1→cH Z m1 H1 σ ρ→bK Z m1 H1 v x→PoF Z Ex m1 H1 D (f x st1)→Q1 v H1):lE Z Φ Ex a σ H Q1:=
 ⟨m,st,ρ,r,en,ay (aG h) (fun _ _ z=>z) fun x st1 _ hx m1 H1 v g1 r1 dv=>k x st1 m1 H1 v g1 r1 (en.mono g1) dv (PoF.sh hx g1)⟩
theorem Cd {Z:Zt} {m:List Addr} {st:Sto} {ρ:Env} {H:Hp} {σ:L2.St} {D:Ends} {Q1:List V→Hp→Prop} {es:List E} {f:List U→Sto→Rs Fl} (r:R Z m st H) (en:cH Z m H σ ρ) (h:PoF Z Ex m H D ((xEs Φ es ρ st).bind f))
   (k:∀ xs st1 m1 H1 vs,Go m H m1 H1→R Z m1 st1 H1→cH Z m1 H1 σ ρ→au Z m1 H1 vs xs→PoF Z Ex m1 H1 D (f xs st1)→Q1 vs H1):lEs Z Φ Ex es σ H Q1:=
 ⟨m,st,ρ,r,en,ay (aG h) (fun _ _ z=>z) fun xs st1 _ hx m1 H1 vs g1 r1 dv=>k xs st1 m1 H1 vs g1 r1 (en.mono g1) dv (PoF.sh hx g1)⟩
theorem ze {Z:Zt} {m:List Addr} {st:Sto} {ρ:Env} {H:Hp} {σ:L2.St} {D:Ends} {Q1:Bool→Hp→Prop} {a:E} {f:U→Sto→Rs Fl} (r:R Z m st H) (en:cH Z m H σ ρ) (h:PoF Z Ex m H D ((xE Φ a ρ st).bind f)) (hf:∀ x st,(∀ b,x ≠ .bl b)→f x st=.bad)
   (k:∀ b st1 m1 H1,Go m H m1 H1→R Z m1 st1 H1→cH Z m1 H1 σ ρ→PoF Z Ex m1 H1 D (f (.bl b) st1)→Q1 b H1):lT Z Φ Ex a σ H Q1:=
 ⟨m,st,ρ,r,en,ay (aG h) (fun _ _ z=>z) fun x st1 _ hx=>by
   cases x with
   | bl b=>exact ⟨b,rfl,fun m1 H1 g1 r1=>k b st1 m1 H1 g1 r1 (en.mono g1) (PoF.sh hx g1)⟩
   | _=>rw [hf _ _ (by intro b z; cases z)] at hx; exact hx.elim⟩
theorem DX {T:Tr} {n:Nat} {e:Expr} {e':E} (h:trE T n e=some e') (t:Option Expr) (l:Nat) (env:PySem.Env) (hs:∀ a b c d,e ≠ .ListComp a b c d):swapsWith e t l env=pure false:=by
 cases n with
 | zero=>rw [trE] at h; cases h
 | succ n=>
   cases e with
   | ListComp a b c d=>exact absurd rfl (hs _ _ _ _)
   | SetComp a b c d=>exact cc (show (none:Option E)=some _ from h)
   | DictComp a b c d e=>exact cc (show (none:Option E)=some _ from h)
   | _=>rfl
end
end Sv
namespace Ev
open PySem PySem.Spec PyProof.Rows L2
theorem vh {X:Cx} {gT:TG} {y:Str} {py spos:Pos} {elt tg iter:Expr} {ifs:List Expr} {scope:Scope} {N:List Str} {caps:List (Option Nat)} {pos:Pos} {wi:TI} {In:TG→TT→TE→Prop} (hT:PG X (.Name y py) gT) (hc:X.calm=true) (c:mY X scope N caps) (hi:PI X tg iter wi)
   (hs:∀ x,foldedSetIterable iter X.env x=pure x)
   (hin:∀ g tt te,In g tt te→∀ s H fp,PG (bc X s H scope N fp) tg g∧PTs (bc X s H scope N fp) ifs tt∧PE (bc X s H scope N fp) elt te)
   (hsw:swapsWith (.ListComp elt [⟨tg,iter,ifs,0⟩] scope pos) (some (.Name y py)) spos.line X.env=pure true) :
   PS X (.Assign [.Name y py] (.ListComp elt [⟨tg,iter,ifs,0⟩] scope pos) spos) (Ih (oJ In caps wi) gT):=by
 intro pins s σ H D I h
 rw [exec_Assign_Name_used _ _ _ _ hsw]
 refine wpAny_bind (wpAny_standAt (wpAny_bind ?_))
 show wpAny _ _ (do let _ ← comprehension (.ListComp elt [⟨tg,iter,ifs,0⟩] scope pos) scope X.env _ (newList []) false _ (some (assign (.Name y py) X.env))) _ _ s
 refine wpAny_bind ?_
 have hcl:=za (lN I c)
 refine wpAny_comprehension_free (use:=some (assign (.Name y py) X.env)) (Q:=fun _ s'=>wpAny (model X.prog X.w) X.A (pure ()) (fun _ s''=>wpAny (model X.prog X.w) X.A (pure Flow.next) (SP X pins D) X.xe s'') X.xe s') (g:=⟨tg,iter,ifs,0⟩) (gs:=[]) rfl hs hcl c.kind c.loc ?_
 show wpAny _ _ (eval iter X.env) _ _ s
 refine thn (hi pins s σ H _ I h) fun v s1 h1=>thn h1 fun itv s2 h2=>?_
 obtain ⟨it,fp,tn,J,H2,e,I2,T,st2,f2,g,tt,te,hI,q⟩:=h2
 subst e
 obtain ⟨Z,⟨m0,z0⟩,turn⟩:=q s2.heap.objs.size (I2.hok.fresh (Nat.le_refl _))
 have ho:∀ b ∈ fp,∃ o,s2.heap.get? b=some o:=fun b hb=>let ⟨o,e,_⟩:=T.obj _ _ st2 b hb; ⟨o,e⟩
 have I4:=wX (scope:=scope) (N:=N) (caps:=caps) I2 f2 ho c
 obtain ⟨hg,ht,he⟩:=hin g tt te hI s2 H2 fp
 refine wpAny_newObj_type (td ?_) (by show 0≤sizeLine; decide)
 have hC:(s2.heap.push { cls:=.type "list",dict:=none,data:=.seq ([]:List Value).toArray }).objs.size=s2.heap.objs.size + 1:=Heap.size_push ..
 dsimp only
 rw [hC]
 have kp:∀ b o,s2.heap.get? b=some o→(pushCells ((s2.heap.push { cls:=.type "list",data:=.seq ([]:List Value).toArray }).push { cls:=.type "dict",data:=.dict #[] }) scope.names).get? b=some o:=fun b o e=>
   pushCells_keeps _ _ b o (Heap.get?_push_of_some _ (Heap.get?_push_of_some _ e))
 have st4:tn 0 (pushCells ((s2.heap.push { cls:=.type "list",data:=.seq ([]:List Value).toArray }).push { cls:=.type "dict",data:=.dict #[] }) scope.names):=T.keep _ _ _ st2 fun b _ o e=>kp b o e
 have stat:∀ {H':Hp},(∀ b ∈ fp,H' b=none)→∀ b ∈ fp,rR (bc X s2 H2 scope N fp) [] H' b:=fun hn b hb=>
   ⟨hn b hb,(I4.ok.exf b hb).1,I4.ok.exfs b hb,.inl hb,(I4.ok.exf b hb).2,fun p hp=>absurd (show p ∈ ([]:List (Addr × Obj)) from hp) (by simp)⟩
 have fr4:∀ b ∈ fp,(upd H2 s2.heap.objs.size (.lst [])) b=none:=fun b hb=>by
   obtain ⟨o,e⟩:=ho b hb
   rw [aK (Nat.ne_of_lt (Heap.lt_size e))]; exact (f2 b hb).1
 have loop:codeAny (model X.prog X.w) X.A (.compLoop (.ListComp elt [⟨tg,iter,ifs,0⟩] scope pos) 0 (.ref it) (.ref s2.heap.objs.size) (bc X s2 H2 scope N fp).env)
     (compPost (model X.prog X.w) X.A X.xe (some (assign (.Name y py) X.env)) (fun _ s'=>wpAny (model X.prog X.w) X.A (pure ()) (fun _ s''=>wpAny (model X.prog X.w) X.A (pure Flow.next) (SP X pins D) X.xe s'') X.xe s') (.ref s2.heap.objs.size) (s2.heap.objs.size + 1))
     { s2 with heap:=pushCells ((s2.heap.push { cls:=.type "list",data:=.seq ([]:List Value).toArray }).push { cls:=.type "dict",data:=.dict #[] }) scope.names }:=by
   refine qd (fun n s'=>∃ i σ' H',Inv (bc X s2 H2 scope N fp) [] σ' H' s'∧tn i s'.heap∧(∀ b ∈ fp,H' b=none)∧Z i n σ' H') ?_ m0 ⟨0,_,_,I4,st4,fr4,z0⟩
   rintro n s3 ⟨i,σ3,H3,I3,st3,fr3,w3⟩
   rcases turn i n σ3 H3 w3 with ⟨stop,qn⟩ | ⟨go,step⟩
   · refine thn (T.done (bc X s2 H2 scope N fp) rfl rfl rfl hc i [] s3 σ3 H3 _ I3 (stat fr3) st3 stop) fun r s5 ⟨hr,I5⟩=>?_
     subst hr
     obtain ⟨m,hn,_⟩:=id I5.loc
     have I6:Inv X pins σ H3 s5:=by
       have lt:∀ b o,s2.heap.get? b=some o→b ≠ s2.heap.objs.size + 1:=fun b o e=>Nat.ne_of_lt (Nat.lt_succ_of_lt (Heap.lt_size e))
       have u:=I5.base
       have u':Un (frs X.stack) fp H2 H3 s2.heap s5.heap:=⟨fun b o e n1 n2 n3=>u.keep b o e n1 n2 n3,fun b o e n1 n2 n3=>u.slot b o e n1 n2 n3,u.free,fun b o e n1=>u.there b o e n1,u.tups,u.frzs,u.tbls⟩
       exact I2.FP (s':=s5) I5.os u' I5.hok I5.bare fun b hb=>⟨(f2 b hb).2.2.2.1,(f2 b hb).2.1,(f2 b hb).2.2.2.2.1,(f2 b hb).2.2.2.2.2⟩
     have fC:H3 (s2.heap.objs.size + 1)=none:=I5.free
     have fk:rR X pins H3 (s2.heap.objs.size + 1):=I2.xD (Nat.le_succ _) fC
     obtain ⟨oC,es,ep,hoC,hdC,rC⟩:=id hn
     have hpin:=I6.pinned (fp:=[s2.heap.objs.size + 1]) (fun b hb=>by rw [List.mem_singleton.mp hb]; exact fk) (fun b hb=>by rw [List.mem_singleton.mp hb]; exact ⟨oC,hoC,fun v z=>by rw [hdC] at z; cases z⟩)
     have hmem:(s2.heap.objs.size + 1,oC) ∈ lY [s2.heap.objs.size + 1] s5.heap:=fv (List.mem_singleton_self _) hoC
     refine thn (hT _ s5 σ H3 (.ref s2.heap.objs.size) (.ref s2.heap.objs.size) _ hpin rfl qn) fun _ s6 ⟨σ6,H6,I7,q7⟩=>?_
     obtain ⟨p1,p2,p3,p4,p5⟩:=I7.pin _ (List.mem_append_right _ (List.mem_append_right _ hmem))
     refine ⟨m,⟨oC,es,ep,p1,hdC,rC⟩,fun h' sb=>wpAny_pure (wpAny_pure ?_)⟩
     refine ⟨σ6,H6,?_,q7⟩
     exact (I7.jd).turned (t':=s6.toks) (it:=s2.heap.objs.size + 1) (fun b o hb e=>(sb.2 b hb).trans e) p2 p3 fk.2.2.2.1 fk.2.2.2.2.1 fk.2.2.2.2.2
   · refine thn (T.item (bc X s2 H2 scope N fp) rfl rfl rfl hc i [] s3 σ3 H3 _ I3 (stat fr3) st3 go) fun r s4 ⟨u,hr,h4⟩=>?_
     subst hr
     refine thn h4 fun _ s5 ⟨x,H5,I5,r5,y5,st5,fr5⟩=>?_
     have I5':=I5.pinned (stat fr5) (T.obj _ _ st5)
     refine thn (hg _ s5 σ3 H5 x u _ I5' r5 (step x H5 y5)) fun _ s6 ⟨σ6,H6,I6,q6⟩=>?_
     have again:∀ {s7:Shared} {σ7:L2.St} {H7:Hp} {m':Nat},Inv (bc X s2 H2 scope N fp) ([]++lY fp s5.heap) σ7 H7 s7→m' < n→Z (i + 1) m' σ7 H7 →
         ∃ m,m < n∧∃ i σ' H',Inv (bc X s2 H2 scope N fp) [] σ' H' s7∧tn i s7.heap∧(∀ b ∈ fp,H' b=none)∧Z i m σ' H':=fun {s7 σ7 H7 m'} I7 hm z7=>by
       refine ⟨m',hm,i + 1,σ7,H7,I7.jd,T.keep _ _ _ st5 fun b hb o e=>(I7.pin (b,o) (List.mem_append_right _ (List.mem_append_right _ (fv hb e)))).1,fun b hb=>?_,z7⟩
       obtain ⟨o,e,d⟩:=T.obj _ _ st5 b hb
       exact (I7.pin (b,o) (List.mem_append_right _ (List.mem_append_right _ (fv hb e)))).2.1
     refine thn (ht _ s6 σ6 H6 _ I6 q6) fun ok s7 ⟨H7,I7,q7⟩=>?_
     cases ok with
     | false=>
       rw [if_neg (by decide)] at q7
       obtain ⟨m',hm,z7⟩:=q7
       exact again I7 hm z7
     | true=>
       rw [if_pos rfl] at q7
       refine thn (he _ s7 σ6 H7 _ I7 q7) fun v' s8 ⟨v,H8,I8,r8,vs,m',q8,l8,hm,z8⟩=>?_
       refine thn (oi (X:=bc X s2 H2 scope N fp) _ s8 σ6 H8 (.ref s2.heap.objs.size) [v] (.ref s2.heap.objs.size) [v'] (fun _ H9=>H9=upd H8 s2.heap.objs.size (.lst (vs++[v]))) I8 rfl (.cons r8 .nil) ⟨_,vs,v,rfl,rfl,q8,l8,rfl⟩) fun _ s9 ⟨_,H9,I9,_,e9⟩=>?_
       subst e9
       exact again I9 hm z8
 exact codeAny_compStart_list loop (T.self _ 0 _ _ _ st4 loop)
end Ev
namespace Sv
open PySem PySem.Spec PyProof.Rows L2
open Ev (D aZ bp ai kf j7 eN slot slot_get iY j1 nC vh oJ PTs bc)
section
variable {Φ:Fn} {cl:Nat→Addr} {CX:CXT} {k:Nat}
structure LW (X:Cx) (T:Tr) (Φ:Fn) (cl:Nat→Addr) (Ex:Nat→Hp→Prop) (m n:Nat):Prop where
 s:∀ ps s,trS T n ps=some s→PS X ps (lS (zt X cl) Φ Ex m s)
 ss:∀ ps s,dJ T n ps=some s→PSs X ps (lSs (zt X cl) Φ Ex m s)
theorem CS {tg e:Expr} (h:uO e=true∨isNm tg=true) (env:PySem.Env):swappedStores [tg] e env=pure none:=by
 cases tg with
 | Tuple a b c=>
   rcases h with h | h
   · cases e <;> first | rfl | cases h
   · cases h
 | List a b=>
   rcases h with h | h
   · cases e <;> first | rfl | cases h
   · cases h
 | _=>rfl
theorem Ag {X:Cx} {T:Tr} {Ex:Nat→Hp→Prop} {n:Nat} (B:Bg X T Φ cl CX Ex k) {elt tg iter:Expr} {ifs:List Expr} {scope:Scope} {pos:Pos} {e:E} {y:Str} {py spos:Pos} {t:Tg} {m:Nat} {asy:Int} (hT:ma T (.Name y py)=some t)
   (he:trE T n (.ListComp elt [⟨tg,iter,ifs,asy⟩] scope pos)=some e) (hsw:swapsWith (.ListComp elt [⟨tg,iter,ifs,asy⟩] scope pos) (some (.Name y py)) spos.line X.env=pure true) :
   PS X (.Assign [.Name y py] (.ListComp elt [⟨tg,iter,ifs,asy⟩] scope pos) spos) (lS (zt X cl) Φ Ex m (.set t e)):=by
 have hasg:=pP B hT
 cases n with
 | zero=>rw [trE] at he; cases he
 | succ n=>
   simp only [trE,stE.eq_def] at he
   split at he
   · rename_i hb0
     obtain ⟨rfl,hb⟩:=hb0
     simp only [Option.bind_eq_some_iff] at he
     obtain ⟨t',h1,it,h2,fs,h3,e',h4,h5⟩:=he
     split at h5
     · rename_i ho
       cases h5
       have b:=vW hb
       have S:=jt n B
       obtain ⟨hi,hs⟩:=S.i tg iter it h2 ho
       refine PS.wk (vh (In:=fun g tt te=>g=lG (zt X cl) t'∧tt=lIf (zt X cl) Φ (fun _ _=>False) fs∧te=lE (zt X cl) Φ (fun _ _=>False) e') hasg B.calm (CH B b) hi hs ?_ hsw) ?_
       · rintro g tt te ⟨rfl,rfl,rfl⟩ s H fp
         have B':=Bs B b s H fp
         have S':=jt n B'
         exact ⟨pP B' h1,S'.f _ _ h3,(S'.e _ _ h4).1⟩
       · rintro D σ H ⟨m,st,ρ,r,en,h⟩
         simp only [xS] at h
         have key:lE (zt X cl) Φ Ex (.comp (iI T scope) t' it fs e') σ H (fun x H1=>lG (zt X cl) t x σ H1 D.nx):=by
           refine ia r en h fun x st1 m1 H1 v g1 r1 en1 dv q1=>?_
           split at q1
           · rename_i ρ' hset
             exact ⟨m1,st1,ρ,x,ρ',r1,en1,dv,hset,fun σ' en'=>q1 m1 H1 σ' (Go.refl _ _) r1 en'⟩
           · exact q1.elim
         exact zr h1 σ H _ key
     · cases h5
   · cases he
theorem pM {T:Tr} {n:Nat} {o:Expr} {o':E} {m:Str} (h:trE T n o=some o') (env:PySem.Env) (w:Sem Value):attributeBase o m env w=w:=by
 cases n with
 | zero=>rw [trE] at h; cases h
 | succ n=>
   cases o with
   | Call f es ks pos=>
     cases f with
     | Name x p=>
       cases es with
       | cons e0 es0=>rfl
       | nil=>
         cases ks with
         | cons k ks=>rfl
         | nil=>exact cc (show (none:Option E)=some _ from h)
     | _=>rfl
   | _=>rfl
theorem yv {Z:Zt} {m:List Addr} {H:Hp} {D:Ends} {Ex:Nat→Hp→Prop} {o:Option Sto} {ρ:Env} (h:PoF Z Ex m H D (ofS o ρ)):∃ st',o=some st'∧∀ m' H' σ',Go m H m' H'→R Z m' st' H'→cH Z m' H' σ' ρ→D.nx σ' H':=by
 cases o with
 | none=>exact h.elim
 | some st'=>exact ⟨st',rfl,h⟩
theorem tD (m:Nat):∀ (n:Nat) {X:Cx} {T:Tr} {Ex:Nat→Hp→Prop},Bg X T Φ cl CX Ex k→LW X T Φ cl Ex m n
 | 0,X,T,Ex,B=>⟨(fun _ _ h=>by exact cc (show (none:Option Sv.S)=some _ from h)),(fun _ _ h=>by simp [dJ] at h)⟩
 | n + 1,X,T,Ex,B=>by
   have S:=tD m n B
   have Z:=jt n B
   refine ⟨?_,?_⟩
   case refine_2=>
     intro ps s h
     cases ps with
     | nil=>
       simp only [dJ,Option.some.injEq] at h
       subst h
       refine PSs.wk E0 ?_
       rintro D σ H ⟨m,st,ρ,r,en,q⟩
       simp only [xSs] at q
       exact q m H σ (Go.refl m H) r en
     | cons p ps=>
       simp only [dJ,Option.bind_eq_some_iff,Option.some.injEq] at h
       obtain ⟨s',h1,ss',h2,rfl⟩:=h
       refine PSs.wk (Bm (S.s _ _ h1) (S.ss _ _ h2)) ?_
       rintro D σ H ⟨m,st,ρ,r,en,q⟩
       simp only [xSs] at q
       refine ⟨m,st,ρ,r,en,ay (aG q) (fun _ _ z=>z) fun f st1 _ hf=>?_⟩
       cases f with
       | nx ρ'=>exact fun m1 H1 σ1 g1 r1 en1=>⟨m1,st1,ρ',r1,en1,PoF.sh hf g1⟩
       | rt d=>exact hf
       | bk ρ'=>exact hf
       | ct ρ'=>exact hf
   case refine_1=>
     intro ps s h
     cases ps with
     | Assign ts e pos=>
       match ts with
       | []=>exact cc (show (none:Option Sv.S)=some _ from h)
       | t :: t2 :: rs=>cases t <;> exact cc (show (none:Option Sv.S)=some _ from h)
       | [tg]=>
         have gen:(∀ a i p,tg ≠ .Subscript a i p)→PS X (.Assign [tg] e pos) (lS (zt X cl) Φ Ex m s):=by
           intro hns
           have h':(if uO e=true∨isNm tg=true then (ma T tg).bind fun t=>(trE T n e).bind fun e'=>some (.set t e') else none)=some s:=by
             cases tg <;> first | (simpa only [trS,stS.eq_def] using h) | exact absurd rfl (hns _ _ _)
           split at h'
           · rename_i hnt
             simp only [Option.bind_eq_some_iff,Option.some.injEq] at h'
             obtain ⟨t,h1,e',h3,rfl⟩:=h'
             have rd:∀ D σ H,lS (zt X cl) Φ Ex m (.set t e') D σ H→Ih (lE (zt X cl) Φ Ex e') (lG (zt X cl) t) D σ H:=by
               rintro D σ H ⟨m,st,ρ,r,en,q⟩
               simp only [xS] at q
               refine ia r en q fun x st1 m1 H1 v g1 r1 en1 dv q1=>?_
               split at q1
               · rename_i ρ' hset
                 exact ⟨m1,st1,ρ,x,ρ',r1,en1,dv,hset,fun σ' en'=>q1 m1 H1 σ' (Go.refl _ _) r1 en'⟩
               · exact q1.elim
             have ord:swapsWithSole [tg] e pos.line X.env=pure false→PS X (.Assign [tg] e pos) (lS (zt X cl) Φ Ex m (.set t e')):=fun hsw=>by
               refine PS.wk (Ca (Z.e _ _ h3).1 (pP B h1) hsw (CS hnt _) ?_) rd
               cases tg <;> first | rfl | (simp [ma] at h1)
             by_cases hl:∃ a b c d,e=.ListComp a b c d
             · obtain ⟨elt,gens,sc,lp,rfl⟩:=hl
               match gens,h3 with
               | [⟨tg',iter,ifs,asy⟩],h3=>
                 cases tg with
                 | Name y py=>
                   have hb:∃ b,swapsWith (.ListComp elt [⟨tg',iter,ifs,asy⟩] sc lp) (some (.Name y py)) pos.line X.env=pure b:=⟨_,rfl⟩
                   obtain ⟨b,hb⟩:=hb
                   cases b with
                   | true=>exact Ag B h1 h3 hb
                   | false=>exact ord hb
                 | Tuple _ _ _=>exact ord rfl
                 | _=>simp [ma] at h1
               | [],h3=>cases n <;> exact cc (show (none:Option E)=some _ from h3)
               | ⟨_,_,_,_⟩ :: _ :: _,h3=>cases n <;> exact cc (show (none:Option E)=some _ from h3)
             · exact ord (DX h3 _ _ _ fun a b c d z=>hl ⟨a,b,c,d,z⟩)
           · cases h'
         cases tg with
         | Subscript a i p=>
           simp only [trS,stS.eq_def] at h
           split at h
           · rename_i hnt
             simp only [Option.bind_eq_some_iff,Option.some.injEq] at h
             obtain ⟨e',h1,a',h2,i',h3,rfl⟩:=h
             have hsw:swapsWithSole [.Subscript a i p] e pos.line X.env=pure false:=by cases e <;> rfl
             have hns:∀ l u st q,i ≠ .Slice l u st q:=by
               rintro l u st q rfl
               cases n <;> exact cc (show (none:Option E)=some _ from h3)
             refine PS.wk (Ca (Z.e _ _ h1).1 (Jz (Z.e _ _ h2).1 (Z.e _ _ h3).1 (FF (cl:=cl)) (fun v=>by cases i <;> first | rfl | exact absurd rfl (hns _ _ _ _))) hsw (by cases e <;> rfl) rfl) ?_
             rintro D σ H ⟨m,st,ρ,r,en,q⟩
             simp only [xS] at q
             refine ia r en q fun z st1 m1 H1 w g1 r1 en1 dw q1=>ia r1 en1 q1 fun x st2 m2 H2 v g2 r2 en2 dv q2=>ia r2 en2 q2 fun y st3 m3 H3 u g3 r3 en3 du q3=>?_
             obtain ⟨st',e1,q4⟩:=yv q3
             exact ⟨m3,st3,x,y,z,r3,dv.mono g3,du,dw.mono (g2.trans g3),st',e1,fun H' g' r'=>q4 m3 H' σ g' r' (en3.mono g')⟩
           · cases h
         | _=>exact gen (fun _ _ _ z=>nomatch z)
     | Return v pos=>
       cases v with
       | none=>
         simp only [trS,stS.eq_def,Option.some.injEq] at h
         subst h
         refine PS.wk D3 ?_
         rintro D σ H ⟨m,st,ρ,r,en,q⟩
         simp only [xS] at q
         exact q m H _ (Go.refl m H) r .non
       | some e=>
         simp only [trS,stS.eq_def,Option.bind_eq_some_iff,Option.some.injEq] at h
         obtain ⟨e',h1,rfl⟩:=h
         refine PS.wk (Ju (Z.e _ _ h1).1) ?_
         rintro D σ H ⟨m,st,ρ,r,en,q⟩
         simp only [xS] at q
         exact ia r en q fun x st1 m1 H1 v g1 r1 en1 dv q1=>q1 m1 H1 v (Go.refl _ _) r1 dv
     | If c a b pos=>
       simp only [trS,stS.eq_def,Option.bind_eq_some_iff,Option.some.injEq] at h
       obtain ⟨c',h1,a',h2,b',h3,rfl⟩:=h
       refine PS.wk (Ko (Z.e _ _ h1).2 (S.ss _ _ h2) (S.ss _ _ h3)) ?_
       rintro D σ H ⟨m,st,ρ,r,en,q⟩
       simp only [xS] at q
       refine ze r en q (fun x st hx=>by cases x <;> first | rfl | exact absurd rfl (hx _)) fun b st1 m1 H1 g1 r1 en1 q1=>?_
       cases b with
       | true=>exact sj ⟨m1,st1,ρ,r1,en1,q1⟩
       | false=>exact rY ⟨m1,st1,ρ,r1,en1,q1⟩
     | For tg it body orelse pos=>
       cases orelse with
       | cons a r=>exact cc (show (none:Option Sv.S)=some _ from h)
       | nil=>
         simp only [trS,stS.eq_def,Option.bind_eq_some_iff] at h
         obtain ⟨t,h1,it',h2,b',h3,h4⟩:=h
         split at h4
         · rename_i ho
           cases h4
           have BN:=B.nox
           have ZN:=jt n BN
           have SN:=tD m n BN
           obtain ⟨hi,hs⟩:=ZN.i tg it it' h2 ho
           refine PS.wk (PS.nox (JG PassesOwn.never B.calm hi (pP BN h1) (SN.ss _ _ h3) hs)) ?_
           rintro D σ H ⟨m0,st,ρ,r,en,q⟩
           simp only [xS] at q
           have q:=aG (qa q)
           refine ⟨m0,st,ρ,r,en,ay q (fun _ _ z=>z.elim) fun sq st1 _ hq J m1 H1 g1 r1 yl=>?_⟩
           generalize hf:(fun (x:U) (ρ':Env) (st':Sto)=>match iz t x ρ' with | some ρ2=>xSs Φ m b' ρ2 st' | none=>(Rs.bad:Rs Fl))=f at hq
           refine ⟨fun i n σ' H'=>∃ m' st' ρ',R (zt X cl) m' st' H'∧cH (zt X cl) m' H' σ' ρ'∧Go m1 H1 m' H'∧post (fun _ _=>False) (kF (zt X cl) m' H' D) (loop f sq n i ρ' st'),⟨sq.len st1 + 1,m1,st1,ρ,r1,en.mono g1,Go.refl _ _,ay hq (fun _ _ z=>z) fun a s _=>kF.sh g1 a s⟩,?_⟩
           rintro i n σ' H' ⟨m',st',ρ',r',en',g',hc⟩
           cases n with
           | zero=>exact hc.elim
           | succ n=>
             rw [loop] at hc
             have yi:=yl m' st' H' g' r' i
             split at hc
             · exact hc.elim
             · rename_i hat
               rw [hat] at yi
               exact .inl ⟨yi,hc m' H' σ' (Go.refl _ _) r' en'⟩
             · rename_i x hat
               rw [hat] at yi
               refine .inr ⟨yi.1,fun σ3 H3=>∃ n',n' < n + 1∧∃ m' st' ρ',R (zt X cl) m' st' H3∧cH (zt X cl) m' H3 σ3 ρ'∧Go m1 H1 m' H3∧post (fun _ _=>False) (kF (zt X cl) m' H3 D) (loop f sq n' (i + 1) ρ' st'),fun _ _ z=>z,fun v H2 hy=>?_⟩
               obtain ⟨g2,r2,dv⟩:=yi.2 v H2 hy
               have hc:=aG hc
               subst hf
               dsimp only at hc
               split at hc
               · rename_i ρ2 hset
                 refine ⟨m',st',ρ',x,ρ2,r2,en'.mono g2,dv,hset,fun σ2 en2=>⟨m',st',ρ2,r2,en2,ay hc (fun _ _ z=>z.elim) fun fl st3 _ hfl=>?_⟩⟩
                 cases fl with
                 | nx ρ3=>exact fun m3 H3 σ3 g3 r3 en3=>⟨n,Nat.lt_succ_self n,m3,st3,ρ3,r3,en3,g'.trans (g2.trans g3),ay hfl (fun _ _ z=>z) fun a s _=>kF.sh (g2.trans g3) a s⟩
                 | ct ρ3=>exact fun m3 H3 σ3 g3 r3 en3=>⟨n,Nat.lt_succ_self n,m3,st3,ρ3,r3,en3,g'.trans (g2.trans g3),ay hfl (fun _ _ z=>z) fun a s _=>kF.sh (g2.trans g3) a s⟩
                 | bk ρ3=>exact fun m3 H3 σ3 g3 r3 en3=>hfl m3 H3 σ3 (g2.trans g3) r3 en3
                 | rt d=>exact fun m3 H3 v3 g3 r3 d3=>hfl m3 H3 v3 (g2.trans g3) r3 d3
               · exact hc.elim
         · cases h4
     | While c body orelse pos=>
       cases orelse with
       | cons a r=>exact cc (show (none:Option Sv.S)=some _ from h)
       | nil=>
         simp only [trS,stS.eq_def,Option.bind_eq_some_iff,Option.some.injEq] at h
         obtain ⟨c',h1,b',h3,rfl⟩:=h
         have BN:=B.nox
         have ZN:=jt n BN
         have SN:=tD m n BN
         refine PS.wk (PS.nox (Dk PassesOwn.never (ZN.e _ _ h1).2 (SN.ss _ _ h3))) ?_
         rintro D σ H ⟨m0,st,ρ,r,en,q⟩
         simp only [xS] at q
         have q:PoF (zt X cl) (fun _ _=>False) m0 H D _:=ay (qa q) (fun _ _ z=>z.elim) fun _ _ _ z=>z
         refine ⟨fun j σ H=>∃ m' st' ρ',R (zt X cl) m' st' H∧cH (zt X cl) m' H σ ρ'∧PoF (zt X cl) (fun _ _=>False) m' H D (oU (fun ρ' st'=>xE Φ c' ρ' st') (fun ρ' st'=>xSs Φ m b' ρ' st') j ρ' st'),⟨m,m0,st,ρ,r,en,q⟩,?_⟩
         rintro j σ' H' ⟨m',st',ρ',r',en',hc⟩
         cases j with
         | zero=>exact hc.elim
         | succ j=>
           rw [oU] at hc
           refine ze r' en' hc (fun x st hx=>by cases x <;> first | rfl | exact absurd rfl (hx _)) fun b st1 m1 H1 g1 r1 en1 q1=>?_
           cases b with
           | false=>exact rY (q1 m1 H1 σ' (Go.refl _ _) r1 en1)
           | true=>
             refine sj ⟨fun σ' H'=>∃ n',n' < j + 1∧∃ m' st' ρ',R (zt X cl) m' st' H'∧cH (zt X cl) m' H' σ' ρ'∧PoF (zt X cl) (fun _ _=>False) m' H' D (oU (fun ρ' st'=>xE Φ c' ρ' st') (fun ρ' st'=>xSs Φ m b' ρ' st') n' ρ' st'),fun _ _ z=>z,m1,st1,ρ',r1,en1,?_⟩
             refine ay (aG q1) (fun _ _ z=>z) fun fl st3 _ hfl=>?_
             cases fl with
             | nx ρ3=>exact fun m3 H3 σ3 g3 r3 en3=>⟨j,Nat.lt_succ_self j,m3,st3,ρ3,r3,en3,PoF.sh hfl g3⟩
             | ct ρ3=>exact fun m3 H3 σ3 g3 r3 en3=>⟨j,Nat.lt_succ_self j,m3,st3,ρ3,r3,en3,PoF.sh hfl g3⟩
             | bk ρ3=>exact hfl
             | rt d=>exact hfl
     | Expr v pos=>
       cases v with
       | Call f es ks cpos=>
         cases f with
         | Name x p=>
           simp only [trS,stS.eq_def,Option.bind_eq_some_iff,Option.some.injEq] at h
           obtain ⟨e',h1,rfl⟩:=h
           refine PS.wk (jh (Z.e _ _ h1).1 rfl) ?_
           rintro D σ H ⟨m,st,ρ,r,en,q⟩
           simp only [xS] at q
           exact ia r en q fun x st1 m1 H1 v g1 r1 en1 dv q1=>q1 m1 H1 σ (Go.refl _ _) r1 en1
         | Attribute o mm apos=>
           cases ks with
           | cons a r=>exact cc (show (none:Option Sv.S)=some _ from h)
           | nil=>
             simp only [trS,stS.eq_def] at h
             split at h
             · rename_i hline
               simp only [Option.bind_eq_some_iff,Option.some.injEq] at h
               obtain ⟨lm,h0,o',h1,es',h2,rfl⟩:=h
               have hbase:attributeBase o mm X.env (eval o X.env)=eval o X.env:=pM h1 _ _
               have rd0:es'=[]→∀ D σ H,lS (zt X cl) Φ Ex m (.mth lm o' es') D σ H→CA (Kx X.K "list" (rM (zt X cl) lm) (lE (zt X cl) Φ Ex o')) D σ H:=by
                 rintro he D σ H ⟨m,st,ρ,r,en,q⟩
                 subst he
                 simp only [xS] at q
                 refine ia r en q fun x st1 m1 H1 v g1 r1 en1 dv q1=>?_
                 match x,q1 with
                 | .loc l,q1=>
                   dsimp only at q1
                   split at q1
                   · simp only [xEs,Rs.aa] at q1
                     obtain ⟨st',e1,q4⟩:=yv q1
                     obtain ⟨a,rfl,hl⟩:=mn dv
                     obtain ⟨fz,ds,vs,_,ly,_⟩:=r1.loc hl
                     exact ⟨.inl ⟨rfl,_,ly.sq⟩,m1,st1,.loc l,[],st',r1,dv,.nil,e1,fun v' H' g' r'=>q4 m1 H' σ g' r' (en1.mono g')⟩
                   · exact q1.elim
               have rd1:∀ D σ H,lS (zt X cl) Φ Ex m (.mth lm o' es') D σ H→CA (tBM X.K "list" (rM (zt X cl) lm) (lE (zt X cl) Φ Ex o') (lEs (zt X cl) Φ Ex es')) D σ H:=by
                 rintro D σ H ⟨m,st,ρ,r,en,q⟩
                 simp only [xS] at q
                 refine ia r en q fun x st1 m1 H1 v g1 r1 en1 dv q1=>?_
                 match x,q1 with
                 | .loc l,q1=>
                   dsimp only at q1
                   split at q1
                   · obtain ⟨a,rfl,hl⟩:=mn dv
                     obtain ⟨fz,ds,vs,_,ly,_⟩:=r1.loc hl
                     refine ⟨.inl ⟨rfl,_,ly.sq⟩,Cd r1 en1 q1 fun xs st2 m2 H2 vs g2 r2 en2 dvs q2=>?_⟩
                     obtain ⟨st',e1,q4⟩:=yv q2
                     exact ⟨m2,st2,.loc l,xs,st',r2,dv.mono g2,dvs,e1,fun v' H' g' r'=>q4 m2 H' σ g' r' (en2.mono g')⟩
                   · exact q1.elim
               have few1:∀ {e:Expr} {es0:List Expr},es=e :: es0→es0.length≤1→((backTo cpos (starEach es X.env)).all (fun x=>!x.1) && (backToKw cpos (keywordEach [] X.env)).all (fun x=>x.1.isSome) && decide (es.length + ([]:List Keyword).length + (if ([]:List Keyword).isEmpty then 0 else 1) < 30))=true:=by
                 intro e es0 he hl
                 subst he
                 have t1:=fE h2 X.env
                 have t2:=gh h2 X.env cpos
                 rw [t1]
                 have:(backTo cpos ((false,eval e X.env) :: starEach es0 X.env)).all (fun x=>!x.1)=true:=by
                   unfold backTo at t2 ⊢
                   rw [List.map_cons,List.all_cons]
                   rw [Bool.and_eq_true]
                   refine ⟨rfl,?_⟩
                   rw [List.all_eq_true]
                   rw [List.any_eq_false] at t2
                   intro x hx
                   have:=t2 x hx
                   simpa using this
                 rw [this]
                 have:decide ((e :: es0).length + ([]:List Keyword).length + (if ([]:List Keyword).isEmpty then 0 else 1) < 30)=true:=decide_eq_true (by simp only [List.length_cons,List.length_nil,List.isEmpty_nil,if_true]; omega)
                 rw [this]; rfl
               unfold trM at h0
               split at h0
               · rename_i hc
                 obtain ⟨rfl,hn⟩:=hc
                 cases h0
                 match es,hn with
                 | [e],_=>exact PS.wk (jh (zj PySem.F.plainAttrs_list PySem.F.slot_list_append PySem.F.type_list_append (Cz (cl:=cl)) (Z.e _ _ h1).1 (Z.a _ _ h2) hbase (few1 rfl (Nat.zero_le _)) hline (fE h2 _) (gh h2 _ _)) rfl) rd1
               split at h0
               · rename_i hc
                 obtain ⟨rfl,hn⟩:=hc
                 cases h0
                 match es,hn with
                 | [e],_=>exact PS.wk (jh (zj PySem.F.plainAttrs_list PySem.F.slot_list_extend PySem.F.type_list_extend (Co (cl:=cl)) (Z.e _ _ h1).1 (Z.a _ _ h2) hbase (few1 rfl (Nat.zero_le _)) hline (fE h2 _) (gh h2 _ _)) rfl) rd1
               split at h0
               · rename_i hc
                 obtain ⟨rfl,hn⟩:=hc
                 cases h0
                 match es,hn with
                 | [e,f],_=>exact PS.wk (jh (zj PySem.F.plainAttrs_list PySem.F.slot_list_insert PySem.F.type_list_insert (Bf (cl:=cl)) (Z.e _ _ h1).1 (Z.a _ _ h2) hbase (few1 rfl (Nat.le_refl _)) hline (fE h2 _) (gh h2 _ _)) rfl) rd1
               split at h0
               · rename_i hc
                 obtain ⟨rfl,hn⟩:=hc
                 cases h0
                 match es,hn with
                 | [],_=>
                   have he:es'=[]:=by cases n <;> simp only [jz,Option.some.injEq,reduceCtorEq] at h2; exact h2.symm
                   exact PS.wk (jh (Cq PySem.F.plainAttrs_list PySem.F.slot_list_pop PySem.F.type_list_pop (Lw (cl:=cl)) (Z.e _ _ h1).1 hbase hline) rfl) (rd0 he)
               split at h0
               · rename_i hc
                 obtain ⟨rfl,hn⟩:=hc
                 cases h0
                 match es,hn with
                 | [e],_=>exact PS.wk (jh (zj PySem.F.plainAttrs_list PySem.F.slot_list_pop PySem.F.type_list_pop (Ee (cl:=cl)) (Z.e _ _ h1).1 (Z.a _ _ h2) hbase (few1 rfl (Nat.zero_le _)) hline (fE h2 _) (gh h2 _ _)) rfl) rd1
               split at h0
               · rename_i hc
                 obtain ⟨rfl,hn⟩:=hc
                 cases h0
                 match es,hn with
                 | [],_=>
                   have he:es'=[]:=by cases n <;> simp only [jz,Option.some.injEq,reduceCtorEq] at h2; exact h2.symm
                   exact PS.wk (jh (Cq PySem.F.plainAttrs_list PySem.F.slot_list_clear PySem.F.type_list_clear (Fw (cl:=cl)) (Z.e _ _ h1).1 hbase hline) rfl) (rd0 he)
               cases h0
             · cases h
         | _=>exact cc (show (none:Option Sv.S)=some _ from h)
       | _=>exact cc (show (none:Option Sv.S)=some _ from h)
     | Break pos=>
       simp only [trS,stS.eq_def,Option.some.injEq] at h
       subst h
       refine PS.wk B6 ?_
       rintro D σ H ⟨m,st,ρ,r,en,q⟩
       simp only [xS] at q
       exact q m H σ (Go.refl m H) r en
     | Continue pos=>
       simp only [trS,stS.eq_def,Option.some.injEq] at h
       subst h
       refine PS.wk vk ?_
       rintro D σ H ⟨m,st,ρ,r,en,q⟩
       simp only [xS] at q
       exact q m H σ (Go.refl m H) r en
     | Pass pos=>
       simp only [trS,stS.eq_def,Option.some.injEq] at h
       subst h
       refine PS.wk DI ?_
       rintro D σ H ⟨m,st,ρ,r,en,q⟩
       simp only [xS] at q
       exact q m H σ (Go.refl m H) r en
     | Raise a b pos=>
       simp only [trS,stS.eq_def,Option.some.injEq] at h
       subst h
       refine PS.wk BL ?_
       rintro D σ H ⟨m,st,ρ,r,en,q⟩
       simp only [xS] at q
       exact q.elim
     | _=>exact cc (show (none:Option Sv.S)=some _ from h)
end
end Sv
namespace Sv
open PySem PySem.Spec PyProof.Rows L2
open Ev (D ai)
theorem AX {Z:Zt} {m:List Addr} {H:Hp} {N:List Str} {vs:List V} {ds:List U} (dn:au Z m H vs ds) (hl:ds.length≤N.length) :
   cH Z m H (L2.start N vs) (ds.map some++List.replicate (N.length - ds.length) none):=by
 have lv:=dn.length
 refine ⟨by unfold L2.start; simp only [List.length_append,List.length_map,List.length_replicate]; omega,fun i d e=>?_⟩
 by_cases q:i < ds.length
 · rw [List.getElem?_append_left (by rw [List.length_map]; exact q),List.getElem?_map] at e
   cases z:ds[i]? with
   | none=>rw [z] at e; cases e
   | some y=>
     rw [z] at e; cases e
     obtain ⟨v,h1,h2⟩:=dn.get z
     refine ⟨v,?_,h2⟩
     unfold L2.start
     rw [List.getElem?_append_left (by rw [List.length_map]; omega),List.getElem?_map,h1]
     rfl
 · rw [List.getElem?_append_right (by rw [List.length_map]; omega)] at e
   have:=List.mem_of_getElem? e
   rw [List.mem_replicate] at this
   cases this.2
theorem Kz {us:List Value} {q:Prop} (h:us.length=0) (k:us=[]→q):q:=k (List.length_eq_zero_iff.mp h)
theorem y9 {us:List Value} {n:Nat} {q:Prop} (h:us.length=n + 1) (k:∀ a r,us=a :: r→r.length=n→q):q:=by
 cases us with
 | nil=>cases h
 | cons a r=>exact k a r rfl (Nat.succ.inj h)
theorem fQ {p:List Value→Prop} (h:∀ a,p [a]) (us:List Value) (e:us.length=1):p us:=
 y9 e fun a r e1 e2=>Kz e2 fun e3=>by rw [e1,e3]; exact h a
theorem lr {p:List Value→Prop} (h:∀ a b,p [a,b]) (us:List Value) (e:us.length=2):p us:=
 y9 e fun a r e1 e2=>by rw [e1]; exact fQ (p:=fun r=>p (a :: r)) (fun b=>h a b) r e2
theorem zc {p:List Value→Prop} (h:∀ a b c,p [a,b,c]) (us:List Value) (e:us.length=3):p us:=
 y9 e fun a r e1 e2=>by rw [e1]; exact lr (p:=fun r=>p (a :: r)) (fun b c=>h a b c) r e2
theorem Lk {p:List Value→Prop} (h:∀ a b c d,p [a,b,c,d]) (us:List Value) (e:us.length=4):p us:=
 y9 e fun a r e1 e2=>by rw [e1]; exact zc (p:=fun r=>p (a :: r)) (fun b c d=>h a b c d) r e2
theorem KC:∀ outer H s E e s',(∀ C a H',¬ E C a H')→¬ CX0 outer H s E e s':=fun _ _ _ _ _ _ _ h=>h
theorem fnU {P:Program} {w:World} {K:PySem.W.Frag} {mg:Str→Option Value} {base:Heap} {x qual:Str} {st:Stmt} {f:Addr} {fd:FuncData} {N ps:List Str} {k n:Nat} {Fs:List Str} {cst:List (Str × Int)} {Φ:Fn} {cl:Nat→Addr} {ir:List S}
   (F:Fun K x qual st f fd) (S:aQ N ps (ab st)) (tr:dJ ⟨ab st,N,Fs,[],cst⟩ n (ak st)=some ir) (hb:∀ x ∈ aW,mg x=none) (hcst:∀ x i,cst.lookup x=some i→∃ t,mg x=some (.int i t))
   (hc:∀ i x,Fs[i]?=some x→Cal P w K mg base CX0 cl k x (Φ i)):cK P w K mg base CX0 (k + 1) f fd ps (spU ⟨K,cl⟩ (mk Φ ir ps.length N.length)):=by
 have hpl:ps.length≤N.length:=by
   have:=congrArg List.length S.pre
   rw [List.length_take] at this
   omega
 refine F.ok S (fun vs H Q E h=>?_) (fun cdv A outer s H vs Q E hr h=>?_)
 · obtain ⟨m,st,ds,r,dn,e⟩:=h
   rw [dn.length]
   unfold mk at e
   split at e
   · assumption
   · exact e.elim
 · obtain ⟨m,st,ds,r,dn,e⟩:=h
   unfold mk at e
   split at e
   · rename_i hl
     have B:Bg (xK CX0 P w K mg base N qual (ab _) f cdv A outer s H E).nox ⟨ab _,N,Fs,[],cst⟩ Φ cl CX0 (fun _ _=>False) k:=
       ⟨rfl,rfl,S.nd,rfl,hr,hb,hc,fun _ _ _ _ _=>rfl,hcst,KC,IY KC⟩
     refine ⟨_,(tD (fuel ds) n B).ss _ _ tr,?_⟩
     refine ⟨m,st,_,r,AX dn (by omega),?_⟩
     rw [← hl] at e
     generalize hr':xSs Φ (fuel ds) ir (ds.map some++List.replicate (N.length - ds.length) none) st=rs at e
     match rs,e with
     | .ok (.rt d') st',e=>exact fun m' H' v g r dv=>e m' H' v g r dv
     | .ok (.nx ρ) st',e=>exact fun m' H' σ' g r en=>e m' H' .non g r .non
   · exact e.elim
theorem Cal.mono {P:Program} {w:World} {K:PySem.W.Frag} {mg:Str→Option Value} {base:Heap} {CX:CXT} {cl:Nat→Addr} {j k:Nat} {x:Str} {F:List U→Sto→Rs U} (c:Cal P w K mg base CX cl j x F) (h:j≤k):Cal P w K mg base CX cl k x F:=by
 obtain ⟨f,fd,ps,G,F,r⟩:=c.ex
 exact ⟨⟨f,fd,ps,G,F.mono h,r⟩⟩
noncomputable def dR (P:Program) (w:World) (K:PySem.W.Frag) (mg:Str→Option Value) (base:Heap) (CX:CXT) (cl:Nat→Addr) (k:Nat) (Fs:List Str) (fs:List (List U→Sto→Rs U)):Prop:=∀ i x,Fs[i]?=some x→Cal P w K mg base CX cl k x (tab fs i)
theorem dR.nil {P:Program} {w:World} {K:PySem.W.Frag} {mg:Str→Option Value} {base:Heap} {CX:CXT} {cl:Nat→Addr} {k:Nat}:dR P w K mg base CX cl k [] []:=fun i x h=>by simp at h
theorem dR.snoc {P:Program} {w:World} {K:PySem.W.Frag} {mg:Str→Option Value} {base:Heap} {CX:CXT} {cl:Nat→Addr} {k:Nat} {Fs:List Str} {fs:List (List U→Sto→Rs U)} {x:Str} {F:List U→Sto→Rs U} (c:dR P w K mg base CX cl k Fs fs) (hl:Fs.length=fs.length) (n:Cal P w K mg base CX cl (k + 1) x F) :
   dR P w K mg base CX cl (k + 1) (Fs++[x]) (fs++[F]):=fun i y h=>by
 by_cases q:i < Fs.length
 · rw [List.getElem?_append_left q] at h
   have:=(c i y h).mono (Nat.le_succ k)
   have e:tab (fs++[F]) i=tab fs i:=by
     unfold tab
     rw [List.getD_eq_getElem?_getD,List.getD_eq_getElem?_getD,List.getElem?_append_left (by omega)]
   rw [e]; exact this
 · rw [List.getElem?_append_right (by omega)] at h
   have e0:i - Fs.length=0:=by
     have:=(List.getElem?_eq_some_iff.mp h).1
     simp at this
     omega
   rw [e0] at h
   cases h
   have e:tab (fs++[F]) i=F:=by
     unfold tab
     rw [List.getD_eq_getElem?_getD,List.getElem?_append_right (by omega),show i - fs.length=0 by omega]
     rfl
   rw [e]; exact n
theorem bI {P:Program} {w:World} {K:PySem.W.Frag} {mg:Str→Option Value} {base:Heap} {CX:CXT} {cl:Nat→Addr} {k:Nat} {x:Str} {f:Addr} {fd:FuncData} {ps:List Str} {F:List U→Sto→Rs U} (h:cK P w K mg base CX k f fd ps (spU ⟨K,cl⟩ F)) (hm:mg x=some (.ref f)) (hk:PySem.W.keepIn K (.ref f)=true) (hb:Binds K fd ps []) :
   Cal P w K mg base CX cl k x F
 := ⟨⟨f,fd,ps,F,h,hm,hk,fun _=>⟨[],[],[],hb,.nil,fun _ _=>.nil,fun ds st _=>by rw [List.append_nil]⟩⟩⟩
end Sv
namespace Sv
open PySem PySem.Spec L2
open Ev (D aZ bp ai)
inductive T where
 | non | bl (b:Bool) | int (i:Int) | str (x:Str) | tup (xs:List T) | lst (xs:List T) | exo (c:Nat)
 deriving Inhabited
inductive Ou (α:Type) where
 | ok (a:α) | exc (c:Nat) | bad
noncomputable def Ou.bind {α β:Type}:Ou α→(α→Ou β)→Ou β
 | .ok a,f=>f a
 | .exc c,_=>.exc c
 | .bad,_=>.bad
noncomputable def Ou.noX {α:Type}:Ou α→Ou α
 | .exc _=>.bad
 | x=>x
theorem Ou.aa {α β:Type} (a:α) (f:α→Ou β):(Ou.ok a).bind f=f a:=rfl
theorem Ou.de {α:Type} (a:α):(Ou.ok a).noX=.ok a:=rfl
theorem Ou.bN {α β:Type} {x:Ou α} {f:α→Ou β} {b:β}:x.bind f=.ok b ↔ ∃ a,x=.ok a∧f a=.ok b:=by
 cases x <;> simp [Ou.bind]
noncomputable abbrev aC:=List (Option T)
mutual
noncomputable def eqT:T→T→Bool
 | .non,.non=>true
 | .bl a,.bl b=>a == b
 | .bl a,.int j=>(if a then 1 else 0) == j
 | .int i,.bl b=>i == (if b then 1 else 0)
 | .int a,.int b=>a == b
 | .str a,.str b=>a == b
 | .tup xs,.tup ys=>rX xs ys
 | .lst xs,.lst ys=>rX xs ys
 | _,_=>false
noncomputable def rX:List T→List T→Bool
 | [],[]=>true
 | x :: xs,y :: ys=>eqT x y && rX xs ys
 | _,_=>false
end
mutual
noncomputable def clT:T→Bool
 | .str x=>Ev.cln (.str x)
 | .tup xs=>nh xs
 | .lst xs=>nh xs
 | .exo _=>false
 | .non | .bl _ | .int _=>true
noncomputable def nh:List T→Bool
 | []=>true
 | x :: xs=>clT x && nh xs
end
mutual
noncomputable def dpT:T→Nat
 | .tup xs=>ui xs + 1
 | .lst xs=>ui xs + 1
 | _=>0
noncomputable def ui:List T→Nat
 | []=>0
 | x :: xs=>max (dpT x) (ui xs)
end
noncomputable def eqK (x:T):Prop:=clT x=true∧dpT x≤64
noncomputable instance (x:T):Decidable (eqK x):=inferInstanceAs (Decidable (_∧_))
noncomputable def z2:Op2→T→T→Ou T
 | .add,.int i,.int j=>.ok (.int (i + j))
 | .add,.tup xs,.tup ys=>if xs ≠ []∧xs.length + ys.length < ai then .ok (.tup (xs++ys)) else .bad
 | .add,.str x,.str y=>if x.length + y.length < ai then .ok (.str (x++y)) else .bad
 | .add,.lst xs,.lst ys=>if xs.length + ys.length < ai then .ok (.lst (xs++ys)) else .bad
 | .sub,.int i,.int j=>.ok (.int (i - j))
 | .mul,.int i,.int j=>if aZ i j then .ok (.int (i * j)) else .bad
 | .mul,.lst xs,.int k=>if 0≤k∧k < 1000∧xs.length * k.toNat < ai then .ok (.lst (List.replicate k.toNat xs).flatten) else .bad
 | .fdiv,.int i,.int j=>if bp j then .ok (.int (i.fdiv j)) else .bad
 | .mod,.int i,.int j=>if j ≠ 0 then .ok (.int (i.fmod j)) else .bad
 | .pow,.int i,.int j=>if 0≤j∧j≤1000000∧i.natAbs < 2 ^ 64 then .ok (.int (i ^ j.toNat)) else .bad
 | .shr,.int i,.int j=>if 0≤j then .ok (.int (i / 2 ^ j.toNat)) else .bad
 | .shl,.int i,.int j=>if 0≤j∧j≤1000000∧i.natAbs < 2 ^ 64 then .ok (.int (i * 2 ^ j.toNat)) else .bad
 | .band,.int i,.int j=>.ok (.int (Builtin.bitAnd i j))
 | .bor,.int i,.int j=>.ok (.int (Builtin.bitOr i j))
 | _,_,_=>.bad
noncomputable def gY:List T→Option (List Int)
 | []=>some []
 | .int i :: r=>(gY r).map (i :: ·)
 | _=>none
noncomputable def zC:Cm→T→T→Option Bool
 | .eq,x,y=>if eqK x∧eqK y then some (eqT x y) else none
 | .ne,x,y=>if eqK x∧eqK y then some (!eqT x y) else none
 | .lt,.int i,.int j=>some (decide (i < j))
 | .le,.int i,.int j=>some (decide (i≤j))
 | .gt,.int i,.int j=>some (decide (j < i))
 | .ge,.int i,.int j=>some (decide (j≤i))
 | .nin,.int x,.lst ys=>(gY ys).map fun l=>!l.any (· == x)
 | _,_,_=>none
noncomputable def ofB:Option Bool→Ou T
 | some b=>.ok (.bl b)
 | none=>.bad
noncomputable def jG:Ty→T→Bool
 | .int,.int _=>true
 | .int,.bl _=>true
 | .bool,.bl _=>true
 | .tuple,.tup _=>true
 | .list,.lst _=>true
 | .str,.str _=>true
 | _,_=>false
noncomputable def tx:List T→Option Bool
 | []=>some true
 | .bl b :: r=>(tx r).map (b && ·)
 | _=>none
noncomputable def pd (xs:List T) (lo hi:Option Int):List T:=(xs.drop (HT.sIx xs.length 0 lo)).take (HT.sIx xs.length xs.length hi - HT.sIx xs.length 0 lo)
noncomputable def kv:E→T→Option (Option Int)
 | .cN,_=>some none
 | _,.int i=>some (some i)
 | _,_=>none
noncomputable def zSl:T→Option Int→Option Int→Ou T
 | .lst xs,lo,hi=>.ok (.lst (pd xs lo hi))
 | _,_,_=>.bad
noncomputable def Ly (b:Bool):T→Bool
 | .bl c=>c == b
 | _=>false
noncomputable def Ki:T→Bool
 | .non=>true
 | _=>false
noncomputable def Mh:Option (List Int)→Ou T
 | some (a :: as)=>.ok (.int (xB a as))
 | _=>.bad
noncomputable def GF:Option (List Int)→Ou T
 | some ns=>.ok (.int ns.sum)
 | _=>.bad
noncomputable def zB:Bi→List T→Ou T
 | .len,[.lst xs]=>.ok (.int xs.length)
 | .len,[.tup xs]=>.ok (.int xs.length)
 | .abs,[.int i]=>.ok (.int (if i < 0 then -i else i))
 | .max,[.int i,.int j]=>.ok (.int (if j > i then j else i))
 | .max,[.lst xs]=>Mh (gY xs)
 | .min,[.int i,.int j]=>.ok (.int (if j < i then j else i))
 | .int,[.int i]=>.ok (.int i)
 | .int,[.bl b]=>.ok (.int (if b then 1 else 0))
 | .list,[.lst xs]=>.ok (.lst xs)
 | .list,[.tup xs]=>.ok (.lst xs)
 | .tuple,[.lst xs]=>.ok (.tup xs)
 | .tuple,[.tup xs]=>.ok (.tup xs)
 | .all,[.lst xs]=>ofB (tx xs)
 | .rev,[.lst xs]=>.ok (.lst xs.reverse)
 | .sum,[.lst xs]=>GF (gY xs)
 | _,_=>.bad
noncomputable def zI:T→T→Ou T
 | .lst xs,.int i=>match atI xs i with | some d=>.ok d | none=>.bad
 | .tup xs,.int i=>match atI xs i with | some d=>.ok d | none=>.bad
 | _,_=>.bad
noncomputable def ax (τ:aC) (i:Nat):Ou T:=match τ[i]? with | some (some d)=>.ok d | _=>.bad
noncomputable def mr:List Nat→List T→aC→Option aC
 | [],[],ρ=>some ρ
 | i :: is,x :: xs,ρ=>mr is xs (ρ.set i (some x))
 | _,_,_=>none
noncomputable def aw:Tg→T→aC→Option aC
 | .nm i,d,ρ=>some (ρ.set i (some d))
 | .tp is,.tup xs,ρ=>mr is xs ρ
 | _,_,_=>none
noncomputable def rangeT (lo:Int) (n:Nat):List T:=(List.range n).map fun k=>T.int (lo + (k:Nat))
noncomputable def lM (k:Nat):List T→List T
 | []=>[]
 | x :: xs=>.tup [.int (k:Nat),x] :: lM (k + 1) xs
noncomputable def km:List T→List T→List T
 | x :: xs,y :: ys=>.tup [x,y] :: km xs ys
 | _,_=>[]
noncomputable def zpT:T→T→Ou (List T)
 | .lst xs,.lst ys=>.ok (km xs ys)
 | _,_=>.bad
noncomputable def dB (τ:aC) (caps:List (Option Nat)):aC:=caps.map fun o=>o.bind fun i=>(τ[i]?).join
noncomputable def dm (f:T→Ou (Option T)):List T→Ou (List T)
 | []=>.ok []
 | x :: xs=>(f x).bind fun o=>(dm f xs).bind fun ys=>.ok (match o with | some y=>y :: ys | none=>ys)
noncomputable abbrev FnT:=Nat→List T→Ou T
mutual
noncomputable def yE (Ψ:FnT):E→aC→Ou T
 | .var i,τ=>ax τ i
 | .cN,_=>.ok .non
 | .cB b,_=>.ok (.bl b)
 | .cI i,_=>.ok (.int i)
 | .cS x,_=>.ok (.str x)
 | .op o a b,τ=>(yE Ψ a τ).bind fun x=>(yE Ψ b τ).bind fun y=>z2 o x y
 | .neg a,τ=>(yE Ψ a τ).bind fun x=>match x with | .int i=>.ok (.int (-i)) | _=>.bad
 | .not a,τ=>(yE Ψ a τ).bind fun x=>match x with | .bl b=>.ok (.bl (!b)) | _=>.bad
 | .cmp o a b,τ=>(yE Ψ a τ).bind fun x=>(yE Ψ b τ).bind fun y=>ofB (zC o x y)
 | .chain o o' a b c,τ=>(yE Ψ a τ).bind fun x=>(yE Ψ b τ).bind fun y=>match zC o x y with
   | some true=>(yE Ψ c τ).bind fun u=>ofB (zC o' y u)
   | some false=>.ok (.bl false)
   | none=>.bad
 | .and a b,τ=>(yE Ψ a τ).bind fun x=>match x with | .bl true=>yE Ψ b τ | .bl false=>.ok (.bl false) | _=>.bad
 | .or a b,τ=>(yE Ψ a τ).bind fun x=>match x with | .bl true=>.ok (.bl true) | .bl false=>yE Ψ b τ | _=>.bad
 | .ite c a b,τ=>(yE Ψ c τ).bind fun x=>match x with | .bl true=>yE Ψ a τ | .bl false=>yE Ψ b τ | _=>.bad
 | .tup es,τ=>(yEs Ψ es τ).bind fun xs=>if xs.length < ai then .ok (.tup xs) else .bad
 | .lst es,τ=>(yEs Ψ es τ).bind fun xs=>if xs.length < ai then .ok (.lst xs) else .bad
 | .ix a i,τ=>(yE Ψ a τ).bind fun x=>(yE Ψ i τ).bind fun y=>zI x y
 | .sl a l h,τ=>(yE Ψ a τ).bind fun x=>(yE Ψ l τ).bind fun y=>match kv l y with
   | none=>.bad
   | some lo=>(yE Ψ h τ).bind fun z=>match kv h z with | none=>.bad | some hi=>zSl x lo hi
 | .call f es,τ=>(yEs Ψ es τ).bind fun xs=>Ψ f xs
 | .bi b es,τ=>(yEs Ψ es τ).bind fun xs=>zB b xs
 | .isi a t,τ=>(yE Ψ a τ).bind fun x=>match x with | .exo _=>.bad | x=>.ok (.bl (jG t x))
 | .isB n a b,τ=>(yE Ψ a τ).bind fun x=>.ok (.bl (n ^^ Ly b x))
 | .isN n a,τ=>(yE Ψ a τ).bind fun x=>.ok (.bl (n ^^ Ki x))
 | .comp caps t it ifs elt,τ=>(yIt Ψ it τ).bind fun xs=>if xs.length < ai then
     ((dm (fun x=>match aw t x (dB τ caps++[none]) with
         | none=>.bad
         | some τ1=>(yIf Ψ ifs τ1).bind fun b=>if b then (yE Ψ elt τ1).bind fun y=>.ok (some y) else .ok none) xs).bind fun ys=>.ok (.lst ys)).noX
   else .bad
noncomputable def yEs (Ψ:FnT):List E→aC→Ou (List T)
 | [],_=>.ok []
 | e :: es,τ=>(yE Ψ e τ).bind fun x=>(yEs Ψ es τ).bind fun xs=>.ok (x :: xs)
noncomputable def yIf (Ψ:FnT):List E→aC→Ou Bool
 | [],_=>.ok true
 | c :: cs,τ=>(yE Ψ c τ).bind fun x=>match x with | .bl true=>yIf Ψ cs τ | .bl false=>.ok false | _=>.bad
noncomputable def yIt (Ψ:FnT):It→aC→Ou (List T)
 | .seq e,τ=>(yE Ψ e τ).bind fun x=>match x with | .lst xs=>.ok xs | .tup xs=>.ok xs | _=>.bad
 | .rng e,τ=>(yE Ψ e τ).bind fun x=>match x with | .int j=>if -(2 ^ 62)≤j∧j < 2 ^ 62 then .ok (rangeT 0 j.toNat) else .bad | _=>.bad
 | .rng2 a b,τ=>(yE Ψ a τ).bind fun x=>(yE Ψ b τ).bind fun y=>match x,y with
   | .int i,.int j=>if (-(2 ^ 62)≤i∧i < 2 ^ 62)∧-(2 ^ 62)≤j∧j < 2 ^ 62 then .ok (rangeT i (j - i).toNat) else .bad
   | _,_=>.bad
 | .enu e,τ=>(yE Ψ e τ).bind fun x=>match x with | .lst xs=>.ok (lM 0 xs) | _=>.bad
 | .zip a b,τ=>(yE Ψ a τ).bind fun x=>(yE Ψ b τ).bind fun y=>zpT x y
end
end Sv
namespace Sv
open PySem PySem.Spec L2
open Ev (D aZ bp ai)
mutual
inductive Rep (st:Sto):U→T→Prop where
 | non:Rep st .non .non
 | bl {b:Bool}:Rep st (.bl b) (.bl b)
 | int {i:Int}:Rep st (.int i) (.int i)
 | str {x:Str}:Rep st (.str x) (.str x)
 | tup {us:List U} {ds:List T} (r:aR st us ds):Rep st (.tup us) (.tup ds)
 | loc {l:Nat} {fz:Bool} {us:List U} {ds:List T} (e:st[l]?=some (fz,us)) (r:aR st us ds):Rep st (.loc l) (.lst ds)
 | exo {c:Nat}:Rep st (.exo c) (.exo c)
 | kl {us:List U} {ds:List T} (r:aR st us ds):Rep st (.kl us) (.lst ds)
inductive aR (st:Sto):List U→List T→Prop where
 | nil:aR st [] []
 | cons {u:U} {d:T} {us:List U} {ds:List T} (h:Rep st u d) (r:aR st us ds):aR st (u :: us) (d :: ds)
end
mutual
noncomputable def locs:U→List Nat
 | .loc l=>[l]
 | .tup us=>j6 us
 | .kl us=>j6 us
 | _=>[]
noncomputable def j6:List U→List Nat
 | []=>[]
 | u :: us=>locs u++j6 us
end
structure Hd where
 h:Nat→Prop
 g:Nat→Prop
 sub:∀ l,g l→h l
noncomputable def Av (h:Hd) (n:Nat) (u:U):Prop:=∀ l ∈ locs u,l < n∧¬ h.h l
structure Wf (h:Hd) (st:Sto):Prop where
 av:∀ (k:Nat) fz us,¬ h.g k→st[k]?=some (fz,us)→∀ u ∈ us,Av h st.length u
 lt:∀ l,h.h l→l < st.length
theorem Av.mono {h:Hd} {n n':Nat} {u:U} (a:Av h n u) (e:n≤n'):Av h n' u:=fun l hl=>⟨Nat.lt_of_lt_of_le (a l hl).1 e,(a l hl).2⟩
theorem Av.imp {h h':Hd} {n:Nat} {u:U} (a:Av h n u) (e:∀ l,l < n→h'.h l→h.h l):Av h' n u:=fun l hl=>⟨(a l hl).1,fun z=>(a l hl).2 (e l (a l hl).1 z)⟩
theorem Av.int {h:Hd} {n:Nat} {i:Int}:Av h n (.int i):=fun l hl=>by simp [locs] at hl
theorem Av.bl {h:Hd} {n:Nat} {b:Bool}:Av h n (.bl b):=fun l hl=>by simp [locs] at hl
theorem Av.non {h:Hd} {n:Nat}:Av h n .non:=fun l hl=>by simp [locs] at hl
theorem Av.str {h:Hd} {n:Nat} {x:Str}:Av h n (.str x):=fun l hl=>by simp [locs] at hl
theorem Av.exo {h:Hd} {n:Nat} {c:Nat}:Av h n (.exo c):=fun l hl=>by simp [locs] at hl
theorem Av.loc {h:Hd} {n l:Nat} (h1:l < n) (h2:¬ h.h l):Av h n (.loc l):=fun k hk=>by simp [locs] at hk; subst hk; exact ⟨h1,h2⟩
theorem fW {us:List U} {l:Nat}:l ∈ j6 us ↔ ∃ u ∈ us,l ∈ locs u:=by
 induction us with
 | nil=>simp [j6]
 | cons u us ih=>simp [j6,ih]
theorem Av.kl {h:Hd} {n:Nat} {us:List U}:Av h n (.kl us) ↔ ∀ u ∈ us,Av h n u:=by
 constructor
 · intro a u hu l hl
   exact a l (by simp only [locs]; exact fW.mpr ⟨u,hu,hl⟩)
 · intro a l hl
   simp only [locs] at hl
   obtain ⟨u,hu,hl⟩:=fW.mp hl
   exact a u hu l hl
theorem Av.tup {h:Hd} {n:Nat} {us:List U}:Av h n (.tup us) ↔ ∀ u ∈ us,Av h n u:=by
 constructor
 · intro a u hu l hl
   exact a l (by simp only [locs]; exact fW.mpr ⟨u,hu,hl⟩)
 · intro a l hl
   simp only [locs] at hl
   obtain ⟨u,hu,hl⟩:=fW.mp hl
   exact a u hu l hl
section
variable {st st':Sto}
mutual
theorem Rep.pre (e:∀ (k:Nat) c,st[k]?=some c→st'[k]?=some c):∀ {u:U} {d:T},Rep st u d→Rep st' u d
 | _,_,.non=>.non
 | _,_,.bl=>.bl
 | _,_,.int=>.int
 | _,_,.str=>.str
 | _,_,.exo=>.exo
 | _,_,.tup r=>.tup (aR.pre e r)
 | _,_,.loc h r=>.loc (e _ _ h) (aR.pre e r)
 | _,_,.kl r=>.kl (aR.pre e r)
theorem aR.pre (e:∀ (k:Nat) c,st[k]?=some c→st'[k]?=some c):∀ {us:List U} {ds:List T},aR st us ds→aR st' us ds
 | _,_,.nil=>.nil
 | _,_,.cons h r=>.cons (Rep.pre e h) (aR.pre e r)
end
mutual
theorem Rep.keep {h:Hd} (w:Wf h st) (e:∀ (k:Nat) c,¬ h.h k→st[k]?=some c→st'[k]?=some c):∀ {u:U} {d:T},Rep st u d→(∀ l ∈ locs u,¬ h.h l)→Rep st' u d
 | _,_,.non,_=>.non
 | _,_,.bl,_=>.bl
 | _,_,.int,_=>.int
 | _,_,.str,_=>.str
 | _,_,.exo,_=>.exo
 | _,_,.tup r,a=>.tup (aR.keep w e r fun u hu l hl=>a l (by simp only [locs]; exact fW.mpr ⟨u,hu,hl⟩))
 | _,_,.kl r,a=>.kl (aR.keep w e r fun u hu l hl=>a l (by simp only [locs]; exact fW.mpr ⟨u,hu,hl⟩))
 | _,_,.loc (l:=l) q r,a=>.loc (e _ _ (a l (by simp [locs])) q) (aR.keep w e r fun u hu k hk=>(w.av _ _ _ (fun z=>a l (by simp [locs]) (h.sub l z)) q u hu k hk).2)
theorem aR.keep {h:Hd} (w:Wf h st) (e:∀ (k:Nat) c,¬ h.h k→st[k]?=some c→st'[k]?=some c):∀ {us:List U} {ds:List T},aR st us ds→(∀ u ∈ us,∀ l ∈ locs u,¬ h.h l)→aR st' us ds
 | _,_,.nil,_=>.nil
 | _,_,.cons h r,a=>.cons (Rep.keep w e h (a _ (List.mem_cons_self ..))) (aR.keep w e r fun u hu=>a u (List.mem_cons_of_mem _ hu))
end
end
theorem gL {st st':Sto} (e:st <+: st'):∀ (k:Nat) c,st[k]?=some c→st'[k]?=some c:=fun k c h=>by
 obtain ⟨r,rfl⟩:=e
 rw [List.getElem?_append_left (List.getElem?_eq_some_iff.mp h).1]; exact h
theorem Rep.ext {st st':Sto} {u:U} {d:T} (r:Rep st u d) (e:st <+: st'):Rep st' u d:=r.pre (gL e)
theorem aR.ext {st st':Sto} {u:List U} {d:List T} (r:aR st u d) (e:st <+: st'):aR st' u d:=r.pre (gL e)
theorem aR.length {st:Sto}:∀ {us:List U} {ds:List T},aR st us ds→us.length=ds.length
 | _,_,.nil=>rfl
 | _,_,.cons _ r=>congrArg (· + 1) r.length
theorem aR.get {st:Sto}:∀ {us:List U} {ds:List T} {i:Nat} {d:T},aR st us ds→ds[i]?=some d→∃ u,us[i]?=some u∧Rep st u d
 | _,_,_,_,.nil,e=>by simp at e
 | _,_,0,_,.cons h _,e=>by simp at e; subst e; exact ⟨_,rfl,h⟩
 | _,_,i + 1,d,.cons _ r,e=>by
   obtain ⟨v,h1,h2⟩:=aR.get (i:=i) (d:=d) r (by simpa using e)
   exact ⟨v,by simpa using h1,h2⟩
theorem aR.append {st:Sto}:∀ {xs ys:List U} {ds es:List T},aR st xs ds→aR st ys es→aR st (xs++ys) (ds++es)
 | _,_,_,_,.nil,s=>s
 | _,_,_,_,.cons h r,s=>.cons h (aR.append r s)
theorem aR.take {st:Sto}:∀ {xs:List U} {ds:List T} (n:Nat),aR st xs ds→aR st (xs.take n) (ds.take n)
 | _,_,0,_=>.nil
 | _,_,_ + 1,.nil=>.nil
 | _,_,n + 1,.cons h r=>.cons h (aR.take n r)
theorem aR.drop {st:Sto}:∀ {xs:List U} {ds:List T} (n:Nat),aR st xs ds→aR st (xs.drop n) (ds.drop n)
 | _,_,0,r=>r
 | _,_,_ + 1,.nil=>.nil
 | _,_,n + 1,.cons _ r=>aR.drop n r
theorem aR.set {st:Sto}:∀ {xs:List U} {ds:List T} (n:Nat) {v:U} {d:T},aR st xs ds→Rep st v d→aR st (xs.set n v) (ds.set n d)
 | _,_,_,_,_,.nil,_=>.nil
 | _,_,0,_,_,.cons _ r,h=>.cons h r
 | _,_,n + 1,_,_,.cons h r,h'=>.cons h (aR.set n r h')
theorem aR.erase {st:Sto}:∀ {xs:List U} {ds:List T} (n:Nat),aR st xs ds→aR st (xs.eraseIdx n) (ds.eraseIdx n)
 | _,_,_,.nil=>.nil
 | _,_,0,.cons _ r=>r
 | _,_,n + 1,.cons h r=>.cons h (aR.erase n r)
theorem aR.dropLast {st:Sto}:∀ {xs:List U} {ds:List T},aR st xs ds→aR st xs.dropLast ds.dropLast
 | _,_,.nil=>.nil
 | _,_,.cons _ .nil=>.nil
 | _,_,.cons h (.cons h' r)=>.cons h (aR.dropLast (.cons h' r))
theorem aR.insert {st:Sto}:∀ {xs:List U} {ds:List T} (n:Nat) {v:U} {d:T},aR st xs ds→Rep st v d→aR st (xs.insertIdx n v) (ds.insertIdx n d)
 | _,_,0,_,_,r,h=>.cons h r
 | _,_,_ + 1,_,_,.nil,_=>.nil
 | _,_,n + 1,_,_,.cons h r,h'=>.cons h (aR.insert n r h')
theorem Rep.int_inv {st:Sto} {u:U} {i:Int} (r:Rep st u (.int i)):u=.int i:=by cases r; rfl
theorem Rep.jD {st:Sto} {u:U} {b:Bool} (r:Rep st u (.bl b)):u=.bl b:=by cases r; rfl
theorem Rep.EF {st:Sto} {u:U} {ds:List T} (r:Rep st u (.tup ds)):∃ us,u=.tup us∧aR st us ds:=by cases r; exact ⟨_,rfl,by assumption⟩
theorem Rep.lst_inv {st:Sto} {u:U} {ds:List T} (r:Rep st u (.lst ds)):(∃ l fz us,u=.loc l∧st[l]?=some (fz,us)∧aR st us ds)∨∃ us,u=.kl us∧aR st us ds:=by
 cases r with
 | loc e r=>exact .inl ⟨_,_,_,rfl,e,r⟩
 | kl r=>exact .inr ⟨_,rfl,r⟩
mutual
noncomputable def toD:T→D
 | .non=>.non
 | .bl b=>.bl b
 | .int i=>.int i
 | .str x=>.str x
 | .tup xs=>.tup (my xs)
 | .lst xs=>.lst (my xs)
 | .exo _=>.non
noncomputable def my:List T→List D
 | []=>[]
 | x :: xs=>toD x :: my xs
end
mutual
theorem mQ {st:Sto}:∀ {u:U} {d:T} (n:Nat),Rep st u d→clT d=true→dpT d≤n→rsv st n u=some (toD d)
 | _,_,n,.non,_,_=>by cases n <;> rfl
 | _,_,n,.bl,_,_=>by cases n <;> rfl
 | _,_,n,.int,_,_=>by cases n <;> rfl
 | _,_,n,.str,_,_=>by cases n <;> rfl
 | _,_,n,.exo,h,_=>by simp [clT] at h
 | _,_,0,.tup _,_,h=>by simp [dpT] at h
 | _,_,n + 1,.tup r,h1,h2=>by
   rw [rsv,mi n r (by simpa [clT] using h1) (by simpa [dpT] using h2)]; rfl
 | _,_,0,.kl _,_,h=>by simp [dpT] at h
 | _,_,n + 1,.kl r,h1,h2=>by
   rw [rsv,mi n r (by simpa [clT] using h1) (by simpa [dpT] using h2)]; rfl
 | _,_,0,.loc _ _,_,h=>by simp [dpT] at h
 | _,_,n + 1,.loc e r,h1,h2=>by
   rw [rsv,e]
   dsimp only
   rw [mi n r (by simpa [clT] using h1) (by simpa [dpT] using h2)]; rfl
theorem mi {st:Sto}:∀ {us:List U} {ds:List T} (n:Nat),aR st us ds→nh ds=true→ui ds≤n→uS (rsv st n) us=some (my ds)
 | _,_,_,.nil,_,_=>rfl
 | _,_,n,.cons h r,h1,h2=>by
   rw [nh,Bool.and_eq_true] at h1
   rw [ui] at h2
   rw [uS,mQ n h h1.1 (by omega),mi n r h1.2 (by omega)]; rfl
end
mutual
theorem zF:∀ d:T,clT d=true→Ev.cln (toD d)=true
 | .non,_=>rfl
 | .bl _,_=>rfl
 | .int _,_=>rfl
 | .str x,h=>by simpa [clT,toD] using h
 | .tup xs,h=>by simp only [toD,Ev.cln]; exact qT xs (by simpa [clT] using h)
 | .lst xs,h=>by simp only [toD,Ev.cln]; exact qT xs (by simpa [clT] using h)
 | .exo _,h=>by simp [clT] at h
theorem qT:∀ d:List T,nh d=true→Ev.w9 (my d)=true
 | [],_=>rfl
 | x :: xs,h=>by
   rw [nh,Bool.and_eq_true] at h
   simp only [my,Ev.w9,zF x h.1,qT xs h.2,Bool.and_self]
end
mutual
theorem zA:∀ d:T,Ev.dep (toD d)=dpT d
 | .non=>rfl
 | .bl _=>rfl
 | .int _=>rfl
 | .str x=>rfl
 | .tup xs=>by simp only [toD,Ev.dep,dpT,qr xs]
 | .lst xs=>by simp only [toD,Ev.dep,dpT,qr xs]
 | .exo _=>rfl
theorem qr:∀ d:List T,Ev.uZ (my d)=ui d
 | []=>rfl
 | x :: xs=>by simp only [my,Ev.uZ,ui,zA x,qr xs]
end
mutual
theorem uH:∀ a b:T,clT a=true→clT b=true→Ev.eqD (toD a) (toD b)=eqT a b
 | .tup xs,b,h1,h2=>by
   cases b with
   | tup ys=>simp only [toD,Ev.eqD,eqT]; exact pR xs ys (by simpa [clT] using h1) (by simpa [clT] using h2)
   | exo c=>simp [clT] at h2
   | _=>simp [toD,Ev.eqD,eqT]
 | .lst xs,b,h1,h2=>by
   cases b with
   | lst ys=>simp only [toD,Ev.eqD,eqT]; exact pR xs ys (by simpa [clT] using h1) (by simpa [clT] using h2)
   | exo c=>simp [clT] at h2
   | _=>simp [toD,Ev.eqD,eqT]
 | .exo _,b,h1,_=>by simp [clT] at h1
 | .non,b,_,h2=>by cases b <;> first | (simp [clT] at h2; done) | simp [toD,Ev.eqD,eqT]
 | .bl _,b,_,h2=>by cases b <;> first | (simp [clT] at h2; done) | simp [toD,Ev.eqD,eqT]
 | .int _,b,_,h2=>by cases b <;> first | (simp [clT] at h2; done) | simp [toD,Ev.eqD,eqT]
 | .str _,b,_,h2=>by cases b <;> first | (simp [clT] at h2; done) | simp [toD,Ev.eqD,eqT]
theorem pR:∀ a b:List T,nh a=true→nh b=true→Ev.n9 (my a) (my b)=rX a b
 | [],[],_,_=>by simp [my,Ev.n9,rX]
 | [],_ :: _,_,_=>by simp [my,Ev.n9,rX]
 | _ :: _,[],_,_=>by simp [my,Ev.n9,rX]
 | x :: xs,y :: ys,h1,h2=>by
   rw [nh,Bool.and_eq_true] at h1 h2
   simp only [my,Ev.n9,rX,uH x y h1.1 h2.1,pR xs ys h1.2 h2.2]
end
theorem pH {d:T} (h:eqK d):Ev.yx (toD d):=⟨zF d h.1,by rw [zA]; exact h.2⟩
theorem nS {st:Sto}:∀ {us:List U} {ds:List T},aR st us ds→hJ us=gY ds
 | _,_,.nil=>rfl
 | _,_,.cons h r=>by
   have ih:=nS r
   cases h <;> first | rfl | (simp only [hJ,gY,ih])
theorem uj {st:Sto} {x y:U} {a b:T} (h1:Rep st x a) (h2:Rep st y b) {o:Cm} {r:Bool} (e:zC o a b=some r):evC o x y st=some r:=by
 cases o
 case eq=>
   simp only [zC.eq_def] at e
   split at e
   · rename_i c
     cases e
     simp only [evC.eq_def,mQ 64 h1 c.1.1 c.1.2,mQ 64 h2 c.2.1 c.2.2]
     rw [if_pos ⟨pH c.1,pH c.2⟩,uH a b c.1.1 c.2.1]
   · cases e
 case ne=>
   simp only [zC.eq_def] at e
   split at e
   · rename_i c
     cases e
     simp only [evC.eq_def,mQ 64 h1 c.1.1 c.1.2,mQ 64 h2 c.2.1 c.2.2]
     rw [if_pos ⟨pH c.1,pH c.2⟩,uH a b c.1.1 c.2.1]
   · cases e
 case nin=>
   cases h1 with
   | int=>
     cases h2 with
     | loc f1 r2=>
       simp only [zC] at e
       simp only [evC,jC,f1,Option.map_some,nS r2]
       exact e
     | kl r2=>
       simp only [zC] at e
       simp only [evC,jC,nS r2]
       exact e
     | _=>simp [zC] at e
   | _=>simp [zC] at e
 all_goals
   cases a with
   | int i=>
     cases b with
     | int j=>
       have:=h1.int_inv; subst this
       have:=h2.int_inv; subst this
       exact e
     | _=>cases e
   | _=>cases e
end Sv
namespace Sv
open PySem PySem.Spec L2
open Ev (D aZ bp ai)
structure Md where
 sc:Bool:=false
 lv:Nat:=0
 mv:Nat:=0
mutual
noncomputable def flat:T→Bool
 | .lst _=>false
 | .tup xs=>sC xs
 | _=>true
noncomputable def sC:List T→Bool
 | []=>true
 | x :: xs=>flat x && sC xs
end
noncomputable def FL:T→Bool
 | .lst ys=>sC ys
 | d=>flat d
noncomputable def vg (lv:Nat):T→Bool
 | .lst xs=>if lv=1 then sC xs else if lv=2 then xs.all FL else false
 | d=>flat d
noncomputable def spc:List (Option Nat)→Tg→It→List E→E→Bool
 | [none],.nm 0,.seq (.var _),[],.isi (.var 0) _=>true
 | _,_,_,_,_=>false
theorem tN {caps:List (Option Nat)} {t:Tg} {it:It} {ifs:List E} {elt:E} (h:spc caps t it ifs elt=true):∃ v ty,caps=[none]∧t=.nm 0∧it=.seq (.var v)∧ifs=[]∧elt=.isi (.var 0) ty:=by
 unfold spc at h
 split at h
 · exact ⟨_,_,rfl,rfl,rfl,rfl,rfl⟩
 · cases h
mutual
noncomputable def gts (μ:Nat→Md) (i lv:Nat):Nat→E→Bool
 | k,.var j=>decide (k < lv) && i == j
 | _,.cN | _,.cB _ | _,.cI _ | _,.cS _=>false
 | _,.op _ a b=>gts μ i lv 1 a || gts μ i lv 1 b
 | _,.neg a=>gts μ i lv 2 a
 | _,.not a=>gts μ i lv 2 a
 | _,.cmp _ a b=>gts μ i lv 2 a || gts μ i lv 2 b
 | _,.chain _ _ a b c=>gts μ i lv 2 a || gts μ i lv 2 b || gts μ i lv 2 c
 | k,.and a b=>gts μ i lv 2 a || gts μ i lv k b
 | k,.or a b=>gts μ i lv 2 a || gts μ i lv k b
 | k,.ite c a b=>gts μ i lv 2 c || gts μ i lv k a || gts μ i lv k b
 | _,.tup es=>bQ μ i lv 0 es
 | _,.lst es=>bQ μ i lv 0 es
 | k,.ix a b=>gts μ i lv (k + 1) a || gts μ i lv 2 b
 | _,.sl a b c=>gts μ i lv 1 a || gts μ i lv 2 b || gts μ i lv 2 c
 | _,.call f es=>bQ μ i lv (if (μ f).sc then 2 else 0) es
 | _,.bi o es=>bQ μ i lv (match o with | .len=>2 | _=>1) es
 | _,.isi a _=>gts μ i lv 2 a
 | _,.isB _ a _=>gts μ i lv 2 a
 | _,.isN _ a=>gts μ i lv 2 a
 | _,.comp caps t it ifs elt=>caps.contains (some i) || dI μ i lv (if spc caps t it ifs elt then 2 else 1) it
noncomputable def bQ (μ:Nat→Md) (i lv:Nat):Nat→List E→Bool
 | _,[]=>false
 | k,e :: es=>gts μ i lv k e || bQ μ i lv k es
noncomputable def dI (μ:Nat→Md) (i lv:Nat):Nat→It→Bool
 | k,.seq e=>gts μ i lv k e
 | _,.rng e=>gts μ i lv 2 e
 | _,.rng2 a b=>gts μ i lv 2 a || gts μ i lv 2 b
 | k,.enu e=>gts μ i lv k e
 | k,.zip a b=>gts μ i lv k a || gts μ i lv k b
end
noncomputable abbrev Own:=List (Nat × Nat)
noncomputable def dn (g:Nat→Nat→Bool):Own→Own
 | []=>[]
 | (i,lv) :: r=>if g i lv then (if lv=2∧g i 1=false then (i,1) :: dn g r else dn g r) else (i,lv) :: dn g r
noncomputable def cg (own:Own) (i:Nat):Nat:=(own.lookup i).getD 0
noncomputable def cD (μ:Nat→Md):E→Nat
 | .lst _=>1
 | .comp _ _ _ _ e=>if cD μ e=0 then 1 else 2
 | .sl _ _ _=>1
 | .op .add _ _=>1
 | .bi .list _=>1
 | .call f _=>(μ f).lv
 | _=>0
noncomputable def isL:T→Bool
 | .lst _=>true
 | _=>false
noncomputable def lvT:T→Nat
 | .lst xs=>if xs.all isL then 2 else 1
 | _=>0
noncomputable def tgN:Tg→List Nat
 | .nm i=>[i]
 | .tp is=>is
noncomputable def frg (t:Tg):Nat→Nat→Bool:=fun k _=>(tgN t).contains k
inductive FlT where
 | nx (τ:aC) (own:Own) | rt (d:T) | bk (τ:aC) (own:Own) | ct (τ:aC) (own:Own)
noncomputable def zM:Lm→List T→List T→Option (List T)
 | .append,xs,[x]=>if xs.length < ai then some (xs++[x]) else none
 | .insert,xs,[.int i,x]=>if xs.length < ai∧0≤i∧i.toNat≤xs.length then some (xs.insertIdx i.toNat x) else none
 | .pop,xs,[]=>if xs.length=0 then none else some xs.dropLast
 | .popAt,xs,[.int i]=>if xs.length < ai then (L2.ixN xs.length i).map fun j=>xs.eraseIdx j else none
 | .clear,_,[]=>some []
 | _,_,_=>none
noncomputable def cT (f:T→aC→Own→Ou FlT):List T→aC→Own→Ou FlT
 | [],τ,own=>.ok (.nx τ own)
 | x :: xs,τ,own=>(f x τ own).bind fun r=>match r with
   | .nx τ' own'=>cT f xs τ' own'
   | .ct τ' own'=>cT f xs τ' own'
   | .bk τ' own'=>.ok (.nx τ' own')
   | .rt d=>.ok (.rt d)
noncomputable def iH (c:aC→Ou T) (g:Nat→Nat→Bool) (f:aC→Own→Ou FlT):Nat→aC→Own→Ou FlT
 | 0,_,_=>.bad
 | n + 1,τ,own=>(c τ).bind fun x=>match x with
   | .bl true=>(f τ (dn g own)).bind fun r=>match r with
     | .nx τ' own'=>iH c g f n τ' own'
     | .ct τ' own'=>iH c g f n τ' own'
     | .bk τ' own'=>.ok (.nx τ' own')
     | .rt d=>.ok (.rt d)
   | .bl false=>.ok (.nx τ (dn g own))
   | _=>.bad
noncomputable def bH {α β:Type}:Option α→(α→Ou β)→Ou β
 | some a,f=>f a
 | none,_=>.bad
noncomputable def gH:Ou T→Option (List T)
 | .ok (.lst xs)=>some xs
 | _=>none
noncomputable def jS:T→Option (List T)
 | .lst xs=>some xs
 | _=>none
noncomputable def intOf:T→Option Int
 | .int i=>some i
 | _=>none
noncomputable def pw (o:Option aC) (own:Own):Ou FlT:=match o with
 | some τ'=>.ok (.nx τ' own)
 | none=>.bad
structure Fx where
 μ:Nat→Md
 need:List Nat
 lv:Nat
noncomputable def cm (X:Fx) (own:Own) (t:Tg) (e:E) (x:T) (τ:aC):Own:=match t with
 | .nm i=>if X.need.contains i && (τ[i]?).isSome then (if min (cD X.μ e) (lvT x)=0 then dn (frg t) own else (i,min (cD X.μ e) (lvT x)) :: dn (frg t) own) else dn (frg t) own
 | .tp _=>dn (frg t) own
noncomputable def CB (τ:aC) (own:Own) (v:Nat) (xs:List T) (y z:T):Ou FlT:=bH (intOf y) fun k=>bH (L2.ixN xs.length k) fun j=>
 if 0 < cg own v then .ok (.nx (τ.set v (some (.lst (xs.set j z)))) (dn (fun i lv=>i == v && lv == 2) own)) else .bad
noncomputable def wj (τ:aC) (own:Own) (v:Nat) (xs ys:List T) (q:Nat) (y z:T):Ou FlT:=bH (intOf y) fun k=>bH (L2.ixN ys.length k) fun j=>.ok (.nx (τ.set v (some (.lst (xs.set q (.lst (ys.set j z)))))) own)
noncomputable def qO (m:Lm) (τ:aC) (own:Own) (v:Nat) (xs ds:List T):Ou FlT:=bH (zM m xs ds) fun ys=>.ok (.nx (τ.set v (some (.lst ys))) (dn (fun i lv=>i == v && lv == 2) own))
noncomputable def wD (m:Lm) (τ:aC) (own:Own) (v:Nat) (xs ys ds:List T) (q:Nat):Ou FlT:=bH (zM m ys ds) fun zs=>.ok (.nx (τ.set v (some (.lst (xs.set q (.lst zs))))) own)
mutual
noncomputable def yS (Ψ ΨM:FnT) (X:Fx) (n:Nat):S→aC→Own→Ou FlT
 | .set t e,τ,own=>match e with
   | .call f (.var v :: es)=>if 0 < (X.μ f).mv then
       (if (X.μ f).mv≤cg (dn (fun i lv=>bQ X.μ i lv 0 es) own) v then
         (ax τ v).bind fun x=>(yEs Ψ es τ).bind fun xs=>(ΨM f (x :: xs)).bind fun d=>pw (aw t d (τ.set v none)) (cm X (dn (fun i _=>i == v) (dn (fun i lv=>bQ X.μ i lv 0 es) own)) t (.call f (.var v :: es)) d (τ.set v none))
       else .bad)
     else (yE Ψ (.call f (.var v :: es)) τ).bind fun x=>pw (aw t x τ) (cm X (dn (fun i lv=>gts X.μ i lv 0 (.call f (.var v :: es))) own) t (.call f (.var v :: es)) x τ)
   | e=>(yE Ψ e τ).bind fun x=>pw (aw t x τ) (cm X (dn (fun i lv=>gts X.μ i lv 0 e) own) t e x τ)
 | .put (.var v) i e,τ,own=>(yE Ψ e τ).bind fun z=>bH (gH (ax τ v)) fun xs=>(yE Ψ i τ).bind fun y=>CB τ (dn (fun k lv=>gts X.μ k lv 0 e || gts X.μ k lv 2 i) own) v xs y z
 | .put (.ix (.var v) a) i e,τ,own=>if cg (dn (fun k lv=>gts X.μ k lv 0 e || gts X.μ k lv 2 a || gts X.μ k lv 2 i) own) v=2 then
     (yE Ψ e τ).bind fun z=>bH (gH (ax τ v)) fun xs=>(yE Ψ a τ).bind fun p=>bH (intOf p) fun p=>bH (L2.ixN xs.length p) fun q=>bH (xs[q]?.bind jS) fun ys=>(yE Ψ i τ).bind fun y=>
       wj τ (dn (fun k lv=>gts X.μ k lv 0 e || gts X.μ k lv 2 a || gts X.μ k lv 2 i) own) v xs ys q y z
   else .bad
 | .put _ _ _,_,_=>.bad
 | .mth m (.var v) es,τ,own=>bH (gH (ax τ v)) fun xs=>if 0 < cg (dn (fun k lv=>bQ X.μ k lv 0 es) own) v then (yEs Ψ es τ).bind fun ds=>qO m τ (dn (fun k lv=>bQ X.μ k lv 0 es) own) v xs ds else .bad
 | .mth m (.ix (.var v) a) es,τ,own=>bH (gH (ax τ v)) fun xs=>if cg (dn (fun k lv=>gts X.μ k lv 2 a || bQ X.μ k lv 0 es) own) v=2 then
     (yE Ψ a τ).bind fun p=>bH (intOf p) fun p=>bH (L2.ixN xs.length p) fun q=>bH (xs[q]?.bind jS) fun ys=>(yEs Ψ es τ).bind fun ds=>wD m τ (dn (fun k lv=>gts X.μ k lv 2 a || bQ X.μ k lv 0 es) own) v xs ys ds q
   else .bad
 | .mth _ _ _,_,_=>.bad
 | .ret e,τ,own=>(yE Ψ e τ).bind fun x=>if X.lv=0∨isL x=false then .ok (.rt x) else match e with
   | .var i=>if X.lv≤cg own i then .ok (.rt x) else .bad
   | e=>if X.lv≤min (cD X.μ e) (lvT x) then .ok (.rt x) else .bad
 | .retN,_,_=>.ok (.rt .non)
 | .ite c a b,τ,own=>(yE Ψ c τ).bind fun x=>match x with
   | .bl true=>ySs Ψ ΨM X n a τ (dn (fun k lv=>gts X.μ k lv 2 c) own)
   | .bl false=>ySs Ψ ΨM X n b τ (dn (fun k lv=>gts X.μ k lv 2 c) own)
   | _=>.bad
 | .for t it body,τ,own=>((yIt Ψ it τ).bind fun xs=>cT (fun x τ' own'=>match aw t x τ' with
     | some τ2=>ySs Ψ ΨM X n body τ2 (dn (frg t) own')
     | none=>.bad) xs τ (dn (fun k lv=>dI X.μ k lv 0 it) own)).noX
 | .while c body,τ,own=>(iH (fun τ'=>yE Ψ c τ') (fun k lv=>gts X.μ k lv 2 c) (fun τ' own'=>ySs Ψ ΨM X n body τ' own') n τ own).noX
 | .expr e,τ,own=>match e with
   | .call f (.var v :: es)=>if 0 < (X.μ f).mv then
       (if (X.μ f).mv≤cg (dn (fun i lv=>bQ X.μ i lv 0 es) own) v then
         (ax τ v).bind fun x=>(yEs Ψ es τ).bind fun xs=>(ΨM f (x :: xs)).bind fun _=>.ok (.nx (τ.set v none) (dn (fun i _=>i == v) (dn (fun i lv=>bQ X.μ i lv 0 es) own)))
       else .bad)
     else (yE Ψ (.call f (.var v :: es)) τ).bind fun _=>.ok (.nx τ (dn (fun i lv=>gts X.μ i lv 0 (.call f (.var v :: es))) own))
   | e=>(yE Ψ e τ).bind fun _=>.ok (.nx τ (dn (fun k lv=>gts X.μ k lv 0 e) own))
 | .raise c,_,_=>.exc c
 | .brk,τ,own=>.ok (.bk τ own)
 | .cont,τ,own=>.ok (.ct τ own)
 | .pas,τ,own=>.ok (.nx τ own)
 | .nev,_,_=>.bad
noncomputable def ySs (Ψ ΨM:FnT) (X:Fx) (n:Nat):List S→aC→Own→Ou FlT
 | [],τ,own=>.ok (.nx τ own)
 | s :: ss,τ,own=>(yS Ψ ΨM X n s τ own).bind fun r=>match r with
   | .nx τ' own'=>ySs Ψ ΨM X n ss τ' own'
   | r=>.ok r
end
end Sv
namespace Sv
open PySem PySem.Spec L2
open Ev (D aZ bp ai)
structure Gr (h:Hd) (st:Sto) (h':Hd) (st':Sto):Prop where
 pre:st <+: st'
 hm:∀ l,h.h l→h'.h l
 gm:∀ l,h.g l→h'.g l
 hn:∀ l,l < st.length→h'.h l→h.h l
 gn:∀ l,l < st.length→h'.g l→h.g l
 wf:Wf h' st'
theorem Gr.refl {h:Hd} {st:Sto} (w:Wf h st):Gr h st h st:=⟨List.prefix_refl _,fun _ z=>z,fun _ z=>z,fun _ _ z=>z,fun _ _ z=>z,w⟩
theorem Gr.same {h:Hd} {st st':Sto} (p:st <+: st') (w:Wf h st'):Gr h st h st':=⟨p,fun _ z=>z,fun _ z=>z,fun _ _ z=>z,fun _ _ z=>z,w⟩
theorem Gr.trans {h h1 h2:Hd} {st st1 st2:Sto} (a:Gr h st h1 st1) (b:Gr h1 st1 h2 st2):Gr h st h2 st2:=
 ⟨a.pre.trans b.pre,fun l z=>b.hm l (a.hm l z),fun l z=>b.gm l (a.gm l z),fun l hl z=>a.hn l hl (b.hn l (Nat.lt_of_lt_of_le hl a.pre.length_le) z),fun l hl z=>a.gn l hl (b.gn l (Nat.lt_of_lt_of_le hl a.pre.length_le) z),b.wf⟩
theorem Gr.av {h h':Hd} {st st':Sto} {u:U} (g:Gr h st h' st') (a:Av h st.length u):Av h' st'.length u:=fun l hl=>⟨Nat.lt_of_lt_of_le (a l hl).1 g.pre.length_le,fun z=>(a l hl).2 (g.hn l (a l hl).1 z)⟩
noncomputable def Gd {α β:Type} (h:Hd) (st:Sto) (P:Hd→Sto→α→β→Prop) (x:Rs α):Ou β→Prop
 | .bad=>True
 | .ok d=>∃ u st' h',x=.ok u st'∧Gr h st h' st'∧P h' st' u d
 | .exc c=>∃ st' h',x=.exc c st'∧Gr h st h' st'
theorem Gd.imp {α β:Type} {h:Hd} {st:Sto} {P Q:Hd→Sto→α→β→Prop} {x:Rs α} {r:Ou β} (g:Gd h st P x r) (f:∀ h' st' u d,P h' st' u d→Q h' st' u d):Gd h st Q x r:=by
 cases r with
 | bad=>trivial
 | ok d=>obtain ⟨u,st',h',e,p,q⟩:=g; exact ⟨u,st',h',e,p,f _ _ _ _ q⟩
 | exc c=>exact g
theorem Gd.bind {α β γ δ:Type} {h:Hd} {st:Sto} {P:Hd→Sto→α→β→Prop} {Q:Hd→Sto→γ→δ→Prop} {x:Rs α} {r:Ou β} {f:α→Sto→Rs γ} {k:β→Ou δ} (g:Gd h st P x r)
   (n:∀ u d st' h',Gr h st h' st'→P h' st' u d→Gd h' st' Q (f u st') (k d)):Gd h st Q (x.bind f) (r.bind k):=by
 cases r with
 | bad=>trivial
 | exc c=>obtain ⟨st',h',e,p⟩:=g; subst e; exact ⟨st',h',rfl,p⟩
 | ok d=>
   obtain ⟨u,st',h',e,p,q⟩:=g
   subst e
   have:=n u d st' h' p q
   show Gd h st Q (f u st') (k d)
   generalize k d=y at this
   cases y with
   | bad=>trivial
   | exc c=>obtain ⟨st2,h2,e,p2⟩:=this; exact ⟨st2,h2,e,p.trans p2⟩
   | ok d'=>obtain ⟨u',st2,h2,e,p2,q2⟩:=this; exact ⟨u',st2,h2,e,p.trans p2,q2⟩
theorem Gd.ok {α β:Type} {h:Hd} {st:Sto} {P:Hd→Sto→α→β→Prop} {u:α} {d:β} (w:Wf h st) (p:P h st u d):Gd h st P (.ok u st) (.ok d):=⟨u,st,h,rfl,.refl w,p⟩
theorem Gd.noX {α β:Type} {h:Hd} {st:Sto} {P:Hd→Sto→α→β→Prop} {x:Rs α} {r:Ou β} (g:Gd h st P x r):Gd h st P x.noX r.noX:=by
 cases r with
 | bad=>trivial
 | exc c=>trivial
 | ok d=>obtain ⟨u,st',h',e,p,q⟩:=g; subst e; exact ⟨u,st',h',rfl,p,q⟩
theorem Gd.inv {α β:Type} {h:Hd} {st:Sto} {P:Hd→Sto→α→β→Prop} {x:Rs α} {r:Ou β} {d:β} (g:Gd h st P x r) (e:r=.ok d):∃ u st' h',x=.ok u st'∧Gr h st h' st'∧P h' st' u d:=by
 subst e; exact g
noncomputable def Dp (h:Hd) (st:Sto) (l:Nat):Prop:=∃ fz us,st[l]?=some (fz,us)∧∀ u ∈ us,∃ c,u=.loc c∧c < st.length∧¬ h.g c
noncomputable def Kd (h:Hd) (k:Nat) (st:Sto) (u:U):Prop:=Av h st.length u∨(1≤k∧∃ l,u=.loc l∧l < st.length∧¬ h.g l)∨(2≤k∧∃ l,u=.loc l∧Dp h st l)
theorem Dp.lt {h:Hd} {st:Sto} {l:Nat} (d:Dp h st l):l < st.length:=by obtain ⟨_,_,e,_⟩:=d; exact (List.getElem?_eq_some_iff.mp e).1
theorem Kd.mono {h:Hd} {k k':Nat} {st:Sto} {u:U} (a:Kd h k st u) (e:k≤k'):Kd h k' st u:=a.imp id (Or.imp (fun ⟨x,y⟩=>⟨Nat.le_trans x e,y⟩) fun ⟨x,y⟩=>⟨Nat.le_trans x e,y⟩)
theorem Dp.gr {h h':Hd} {st st':Sto} {l:Nat} (d:Dp h st l) (g:Gr h st h' st'):Dp h' st' l:=by
 obtain ⟨fz,us,e,q⟩:=d
 exact ⟨fz,us,gL g.pre _ _ e,fun u hu=>let ⟨c,e1,e2,e3⟩:=q u hu; ⟨c,e1,Nat.lt_of_lt_of_le e2 g.pre.length_le,fun z=>e3 (g.gn c e2 z)⟩⟩
theorem Kd.gr {h h':Hd} {k:Nat} {st st':Sto} {u:U} (a:Kd h k st u) (g:Gr h st h' st'):Kd h' k st' u:=by
 rcases a with a | ⟨x,l,e,hl,ng⟩ | ⟨x,l,e,d⟩
 · exact .inl (g.av a)
 · exact .inr (.inl ⟨x,l,e,Nat.lt_of_lt_of_le hl g.pre.length_le,fun z=>ng (g.gn l hl z)⟩)
 · exact .inr (.inr ⟨x,l,e,d.gr g⟩)
theorem Kd.zero {h:Hd} {st:Sto} {u:U} (a:Kd h 0 st u):Av h st.length u:=by
 rcases a with a | ⟨x,_⟩ | ⟨x,_⟩
 · exact a
 · omega
 · omega
noncomputable def PX (k:Nat) (h:Hd) (st:Sto) (u:U) (d:T):Prop:=Rep st u d∧Kd h k st u
noncomputable def PXs (k:Nat) (h:Hd) (st:Sto) (us:List U) (ds:List T):Prop:=aR st us ds∧∀ u ∈ us,Kd h k st u
theorem PX.of {k:Nat} {h:Hd} {st:Sto} {u:U} {d:T} (r:Rep st u d) (a:Av h st.length u):PX k h st u d:=⟨r,.inl a⟩
theorem PX.gr {k:Nat} {h h':Hd} {st st':Sto} {u:U} {d:T} (p:PX k h st u d) (g:Gr h st h' st'):PX k h' st' u d:=⟨p.1.ext g.pre,p.2.gr g⟩
theorem PXs.gr {k:Nat} {h h':Hd} {st st':Sto} {u:List U} {d:List T} (p:PXs k h st u d) (g:Gr h st h' st'):PXs k h' st' u d:=⟨p.1.ext g.pre,fun u hu=>(p.2 u hu).gr g⟩
theorem PX.mono {k k':Nat} {h:Hd} {st:Sto} {u:U} {d:T} (p:PX k h st u d) (e:k≤k'):PX k' h st u d:=⟨p.1,p.2.mono e⟩
theorem PX.weak {k:Nat} {h:Hd} {st:Sto} {u:U} {d:T} (p:PX 0 h st u d):PX k h st u d:=p.mono (Nat.zero_le _)
theorem PX.av {h:Hd} {st:Sto} {u:U} {d:T} (p:PX 0 h st u d):Av h st.length u:=p.2.zero
structure WE (h:Hd) (st:Sto) (ρ:Env) (τ:aC) (own:Own):Prop where
 len:ρ.length=τ.length
 val:∀ (i:Nat) d,τ[i]?=some (some d)→∃ u,ρ[i]?=some (some u)∧Rep st u d∧(Av h st.length u∨∃ lv,(i,lv) ∈ own∧Kd h lv st u)
theorem WE.gr {h h':Hd} {st st':Sto} {ρ:Env} {τ:aC} {own:Own} (w:WE h st ρ τ own) (g:Gr h st h' st'):WE h' st' ρ τ own:=
 ⟨w.len,fun i d q=>let ⟨u,h1,h2,h3⟩:=w.val i d q; ⟨u,h1,h2.ext g.pre,h3.imp g.av fun ⟨lv,a,b⟩=>⟨lv,a,b.gr g⟩⟩⟩
theorem iG {st:Sto} {c:Bool × List U}:st <+: st++[c]:=List.prefix_append _ _
theorem Wf.new {h:Hd} {st:Sto} {us:List U} (w:Wf h st) (a:∀ u ∈ us,Av h st.length u):Wf h (st++[(false,us)]):=by
 refine ⟨fun k fz vs hk e u hu=>?_,fun l hl=>by rw [List.length_append]; exact Nat.lt_add_right _ (w.lt l hl)⟩
 rw [List.length_append]
 rcases Nat.lt_or_ge k st.length with q | q
 · rw [List.getElem?_append_left q] at e
   exact (w.av k fz vs hk e u hu).mono (Nat.le_add_right _ _)
 · rw [List.getElem?_append_right q] at e
   have:=List.mem_of_getElem? e
   rw [List.mem_singleton] at this
   cases this
   exact (a u hu).mono (Nat.le_add_right _ _)
theorem tw {h:Hd} {st:Sto} {us:List U} {ds:List T} (w:Wf h st) (r:aR st us ds):Rep (st++[(false,us)]) (.loc st.length) (.lst ds)∧Av h (st++[(false,us)]).length (.loc st.length):=by
 refine ⟨.loc (fz:=false) (us:=us) ?_ (r.ext iG),.loc (by rw [List.length_append]; exact Nat.lt_succ_self _) fun z=>Nat.lt_irrefl _ (w.lt _ z)⟩
 rw [List.getElem?_append_right (Nat.le_refl _),Nat.sub_self]; rfl
theorem ju {k:Nat} {h:Hd} {st:Sto} {us:List U} {ds:List T} (w:Wf h st) (p:PXs 0 h st us ds):Gd h st (PX k) (new st us) (.ok (.lst ds)):=by
 obtain ⟨r1,r2⟩:=tw w p.1
 exact ⟨_,_,h,rfl,.same iG (w.new fun u hu=>(p.2 u hu).zero),.of r1 r2⟩
theorem ig {k:Nat} {h:Hd} {st:Sto} {u:U} {ds:List T} (w:Wf h st) (p:PX k h st u (.lst ds)):∃ us,((∃ l fz,u=.loc l∧st[l]?=some (fz,us))∨u=.kl us)∧PXs (k - 1) h st us ds:=by
 rcases p.1.lst_inv with ⟨l,fz,us,rfl,e,r⟩ | ⟨us,rfl,r⟩
 · refine ⟨us,.inl ⟨l,fz,rfl,e⟩,r,fun u hu=>?_⟩
   rcases p.2 with a | ⟨x,l',z,hl,ng⟩ | ⟨x,l',z,fz',us',e',q⟩
   · exact .inl (w.av _ _ _ (fun q=>(a l (by simp [locs])).2 (h.sub l q)) e u hu)
   · cases z; exact .inl (w.av _ _ _ ng e u hu)
   · cases z
     rw [e] at e'; cases e'
     obtain ⟨c,e1,e2,e3⟩:=q u hu
     exact .inr (.inl ⟨by omega,c,e1,e2,e3⟩)
 · refine ⟨us,.inr rfl,r,fun u hu=>.inl ?_⟩
   rcases p.2 with a | ⟨_,l,z,_⟩ | ⟨_,l,z,_⟩
   · exact Av.kl.mp a u hu
   · cases z
   · cases z
theorem mC {k:Nat} {h:Hd} {st:Sto} {u:U} {ds:List T} (w:Wf h st) (p:PX k h st u (.lst ds)):∃ us,jC st u=some us∧seq? st u=some us∧PXs (k - 1) h st us ds:=by
 obtain ⟨us,⟨l,fz,rfl,e⟩ | rfl,q⟩:=ig w p
 · exact ⟨us,by simp [jC,e],by simp [seq?,e],q⟩
 · exact ⟨us,rfl,rfl,q⟩
theorem PXs.mono {k k':Nat} {h:Hd} {st:Sto} {u:List U} {d:List T} (p:PXs k h st u d) (e:k≤k'):PXs k' h st u d:=⟨p.1,fun u hu=>(p.2 u hu).mono e⟩
theorem iR {k k':Nat} {h:Hd} {st:Sto} {u:U} {ds:List T} (p:PX k h st u (.tup ds)):∃ us,u=.tup us∧PXs k' h st us ds:=by
 obtain ⟨us,rfl,r⟩:=p.1.EF
 refine ⟨us,rfl,r,fun u hu=>.inl ?_⟩
 rcases p.2 with a | ⟨_,l,z,_⟩ | ⟨_,l,z,_⟩
 · exact Av.tup.mp a u hu
 · cases z
 · cases z
theorem CG {k:Nat} {h:Hd} {st:Sto} {us:List U} {ds:List T} (p:PXs k h st us ds) {i:Int} {d:T} (e:atI ds i=some d):∃ u,atI us i=some u∧PX k h st u d:=by
 unfold atI at e ⊢
 rw [p.1.length]
 obtain ⟨j,h1,h2⟩:=Option.bind_eq_some_iff.mp e
 obtain ⟨u,h3,h4⟩:=p.1.get h2
 exact ⟨u,by rw [h1]; exact h3,h4,(p.2 u (List.mem_of_getElem? h3))⟩
theorem PXs.append {k:Nat} {h:Hd} {st:Sto} {us vs:List U} {ds es:List T} (p:PXs k h st us ds) (q:PXs k h st vs es):PXs k h st (us++vs) (ds++es):=
 ⟨p.1.append q.1,fun u hu=>(List.mem_append.mp hu).elim (p.2 u) (q.2 u)⟩
theorem PXs.rep {k:Nat} {h:Hd} {st:Sto} {us:List U} {ds:List T} (p:PXs k h st us ds):∀ n:Nat,PXs k h st (List.replicate n us).flatten (List.replicate n ds).flatten
 | 0=>⟨.nil,fun _ z=>by simp at z⟩
 | n + 1=>by rw [List.replicate_succ,List.replicate_succ,List.flatten_cons,List.flatten_cons]; exact p.append (p.rep n)
theorem PXs.sub {k:Nat} {h:Hd} {st:Sto} {us vs:List U} {ds es:List T} (p:PXs k h st us ds) (r:aR st vs es) (s:∀ u ∈ vs,u ∈ us):PXs k h st vs es:=⟨r,fun u hu=>p.2 u (s u hu)⟩
theorem PXs.cut {k:Nat} {h:Hd} {st:Sto} {us:List U} {ds:List T} (p:PXs k h st us ds) (lo hi:Option Int):PXs k h st (Dc us lo hi) (pd ds lo hi):=by
 unfold Dc pd
 rw [p.1.length]
 exact p.sub (.take _ (.drop _ p.1)) fun u hu=>List.mem_of_mem_drop (List.mem_of_mem_take hu)
theorem PXs.nil {k:Nat} {h:Hd} {st:Sto}:PXs k h st [] []:=⟨.nil,fun _ z=>nomatch z⟩
theorem PXs.cons {k:Nat} {h:Hd} {st:Sto} {u:U} {d:T} {us:List U} {ds:List T} (p:PX k h st u d) (q:PXs k h st us ds):PXs k h st (u :: us) (d :: ds):=
 ⟨.cons p.1 q.1,fun v hv=>by
   rcases List.mem_cons.mp hv with rfl | hv
   · exact p.2
   · exact q.2 v hv⟩
theorem E1 {k:Nat} {h:Hd} {st:Sto} {us:List U} {ds:List T} (w:Wf h st) (p:PXs 0 h st us ds):Gd h st (PX k) (.ok (.tup us) st) (.ok (.tup ds)):=
 .ok w (.of (.tup p.1) (Av.tup.mpr fun u hu=>(p.2 u hu).zero))
theorem zD {st:Sto} {x y:U} {us vs:List U} (c1:(∃ l fz,x=.loc l∧st[l]?=some (fz,us))∨x=.kl us) (c2:(∃ l fz,y=.loc l∧st[l]?=some (fz,vs))∨y=.kl vs) :
   ev2 .add x y st=if us.length + vs.length < ai then new st (us++vs) else .bad:=by
 rcases c1 with ⟨l,fz,rfl,f1⟩ | rfl <;> rcases c2 with ⟨k,fz2,rfl,f2⟩ | rfl <;> simp only [ev2.eq_def, *]
theorem Ep {h:Hd} {st:Sto} {x y:U} {a d:T} (w:Wf h st) (p:PX 1 h st x a) (q:PX 1 h st y d) (o:Op2):Gd h st (PX 0) (ev2 o x y st) (z2 o a d):=by
 cases a with
 | int i=>
   have:=p.1.int_inv; subst this
   cases d with
   | int j=>
     have:=q.1.int_inv; subst this
     cases o <;> simp only [ev2.eq_def,z2.eq_def] <;> (try split) <;> first | exact .ok w (.of .int .int) | trivial
   | _=>cases o <;> trivial
 | str x1=>
   cases p.1
   cases d with
   | str y1=>
     cases q.1
     cases o <;> simp only [ev2.eq_def,z2.eq_def] <;> (try split) <;> first | exact .ok w (.of .str .str) | trivial
   | _=>cases o <;> trivial
 | tup xs=>
   obtain ⟨us,rfl,p'⟩:=iR (k':=0) p
   cases d with
   | tup ys=>
     obtain ⟨vs,rfl,q'⟩:=iR (k':=0) q
     cases o <;> try trivial
     simp only [ev2.eq_def,z2.eq_def]
     have e1:=p'.1.length
     have e2:=q'.1.length
     have e3:us ≠ [] ↔ xs ≠ []:=by
       rw [← List.length_pos_iff,← List.length_pos_iff,e1]
     by_cases hc:xs ≠ []∧xs.length + ys.length < ai
     · rw [if_pos hc,if_pos ⟨e3.mpr hc.1,by omega⟩]
       exact E1 w (p'.append q')
     · rw [if_neg hc]; trivial
   | _=>cases o <;> trivial
 | lst xs=>
   cases d with
   | lst ys=>
     obtain ⟨us,c1,r1⟩:=ig w p
     obtain ⟨vs,c2,r2⟩:=ig w q
     cases o <;> try trivial
     have e1:=r1.1.length
     have e2:=r2.1.length
     rw [zD c1 c2]
     simp only [z2.eq_def]
     rw [← e1,← e2]
     split
     · exact ju w (r1.append r2)
     · trivial
   | int k=>
     have:=q.1.int_inv; subst this
     obtain ⟨us,c1,r1⟩:=ig w p
     cases o <;> try trivial
     have e1:=r1.1.length
     have el:jC st x=some us:=by
       rcases c1 with ⟨l,fz,rfl,f1⟩ | rfl
       · simp only [jC,f1,Option.map_some]
       · rfl
     have ek:ev2 .mul x (.int k) st=if 0≤k∧k < 1000∧us.length * k.toNat < ai then new st (List.replicate k.toNat us).flatten else .bad:=by
       rcases c1 with ⟨l,fz,rfl,f1⟩ | rfl <;> simp only [ev2.eq_def,el]
     rw [ek]
     simp only [z2.eq_def]
     rw [← e1]
     split
     · exact ju w (r1.rep k.toNat)
     · trivial
   | _=>cases o <;> trivial
 | _=>cases o <;> trivial
theorem Fd {k:Nat} {h:Hd} {st:Sto} {x y:U} {a d:T} (w:Wf h st) (p:PX (k + 1) h st x a) (q:PX 2 h st y d):Gd h st (PX k) (evI x y st) (zI a d):=by
 cases d with
 | int i=>
   have:=q.1.int_inv; subst this
   cases a with
   | lst xs=>
     obtain ⟨us,_,e2,p'⟩:=mC w p
     simp only [zI.eq_def,evI.eq_def,e2]
     cases e:atI xs i with
     | some d'=>
       obtain ⟨u,e3,r⟩:=CG p' e
       rw [e3]; exact .ok w (r.mono (Nat.le_of_eq (Nat.add_sub_cancel k 1)))
     | none=>trivial
   | tup xs=>
     obtain ⟨us,rfl,p'⟩:=iR (k':=0) p
     simp only [zI.eq_def,evI.eq_def,seq?]
     cases e:atI xs i with
     | some d'=>
       obtain ⟨u,e3,r⟩:=CG p' e
       rw [e3]; exact .ok w r.weak
     | none=>trivial
   | _=>trivial
 | _=>cases a <;> trivial
theorem zy {st:Sto}:∀ {us:List U} {ds:List T} {b:Bool},aR st us ds→tx ds=some b→allB us=some b
 | _,_,_,.nil,e=>e
 | _,_,b,.cons h r,e=>by
   cases h <;> first | (simp [tx] at e; done) | skip
   simp only [tx,Option.map_eq_some_iff] at e
   obtain ⟨c,e1,e2⟩:=e
   simp only [allB,zy r e1,Option.map_some,e2]
theorem ints_rep {st:Sto}:∀ {us:List U} {ds:List T} {b:List Int},aR st us ds→gY ds=some b→hJ us=some b
 | _,_,_,.nil,e=>e
 | _,_,b,.cons h r,e=>by
   cases h <;> first | (simp [gY] at e; done) | skip
   simp only [gY,Option.map_eq_some_iff] at e
   obtain ⟨c,e1,e2⟩:=e
   simp only [hJ,ints_rep r e1,Option.map_some,e2]
theorem Lv {st:Sto}:∀ {us:List U} {ds:List T},aR st us ds→aR st us.reverse ds.reverse
 | _,_,.nil=>.nil
 | _,_,.cons h r=>by rw [List.reverse_cons,List.reverse_cons]; exact (Lv r).append (.cons h .nil)
noncomputable def biK:Bi→Nat
 | .len=>2
 | _=>1
theorem EJ {h:Hd} {st:Sto} {us:List U} {ds:List T} (w:Wf h st) (o:Bi) (p:PXs (biK o) h st us ds):Gd h st (PX 0) (evB o us st) (zB o ds):=by
 match ds,p with
 | [],_=>cases o <;> trivial
 | [a],⟨.cons r .nil,hp⟩=>
   rename_i x
   have px:PX (biK o) h st x a:=⟨r,hp x (List.mem_singleton_self x)⟩
   cases a with
   | int i=>
     have:=r.int_inv; subst this
     cases o <;> first | trivial | exact .ok w (.of .int .int)
   | bl c=>
     have:=r.jD; subst this
     cases o <;> first | trivial | exact .ok w (.of .int .int)
   | lst xs=>
     obtain ⟨vs,e1,e2,p'⟩:=mC w px
     cases o <;> try trivial
     · simp only [evB.eq_def,zB.eq_def,e2,p'.1.length]; exact .ok w (.of .int .int)
     · simp only [evB.eq_def,zB.eq_def,e1]
       cases z:gY xs with
       | none=>trivial
       | some ns=>
         rw [ints_rep p'.1 z]
         cases ns with
         | nil=>trivial
         | cons a as=>exact .ok w (.of .int .int)
     · simp only [evB.eq_def,zB.eq_def,e2]; exact ju w p'
     · simp only [evB.eq_def,zB.eq_def,e2]; exact E1 w p'
     · simp only [evB.eq_def,zB.eq_def,e1]
       cases z:tx xs with
       | none=>trivial
       | some c=>rw [zy p'.1 z]; exact .ok w (.of .bl .bl)
     · simp only [evB.eq_def,zB.eq_def,e1]; exact ju w ⟨Lv p'.1,fun x hx=>p'.2 x (List.mem_reverse.mp hx)⟩
     · simp only [evB.eq_def,zB.eq_def,e1]
       cases z:gY xs with
       | none=>trivial
       | some ns=>rw [ints_rep p'.1 z]; exact .ok w (.of .int .int)
   | tup xs=>
     obtain ⟨vs,rfl,p'⟩:=iR (k':=0) px
     cases o <;> try trivial
     · simp only [evB.eq_def,zB.eq_def,seq?,p'.1.length]; exact .ok w (.of .int .int)
     · simp only [evB.eq_def,zB.eq_def,seq?]; exact ju w p'
     · simp only [evB.eq_def,zB.eq_def,seq?]; exact E1 w p'
   | _=>cases o <;> trivial
 | [a,d],⟨.cons r (.cons r2 .nil),hp⟩=>
   cases a with
   | int i=>
     have:=r.int_inv; subst this
     cases d with
     | int j=>
       have:=r2.int_inv; subst this
       cases o <;> first | trivial | exact .ok w (.of .int .int)
     | _=>cases o <;> trivial
   | _=>cases o <;> trivial
 | a :: b :: c :: r,_=>
   have:zB o (a :: b :: c :: r)=.bad:=by cases o <;> cases a <;> first | rfl | (cases b <;> rfl)
   rw [this]; trivial
theorem wV {st:Sto} {u:U} {d:T} (r:Rep st u d) (t:Ty):A5 t u=jG t d:=by cases r <;> cases t <;> rfl
theorem Fz {st:Sto} {u:U} {d:T} (r:Rep st u d) (t:Bool):A4 t u=Ly t d:=by cases r <;> rfl
theorem DN {st:Sto} {u:U} {d:T} (r:Rep st u d):A2 u=Ki d:=by cases r <;> rfl
theorem pG {st:Sto} {u:U} {d:T} (r:Rep st u d) (e:E) {o:Option Int} (h:kv e d=some o):xy e u=some o:=by
 cases r <;> cases e <;> first | exact h | (cases h; done)
noncomputable def SqR (h:Hd) (st:Sto):Sq→List T→Prop
 | .vals us,xs=>PXs 0 h st us xs
 | .lst l,xs=>¬ h.g l∧∃ fz us,st[l]?=some (fz,us)∧aR st us xs
 | .enu l,ys=>¬ h.g l∧∃ fz us xs,st[l]?=some (fz,us)∧aR st us xs∧ys=lM 0 xs
 | .zip p q,zs=>∃ xs ys,SqR h st p xs∧SqR h st q ys∧zs=km xs ys
noncomputable def SqN (h:Hd):Sq→Prop
 | .lst l=>¬ h.h l
 | .enu l=>¬ h.h l
 | .vals _=>True
 | .zip p q=>SqN h p∧SqN h q
noncomputable def BI:Option T→Option T→Option T
 | some x,some y=>some (.tup [x,y])
 | _,_=>none
theorem vc:∀ (xs ys:List T) (i:Nat),(km xs ys)[i]?=BI xs[i]? ys[i]?
 | [],ys,i=>by simp [km,BI]
 | x :: xs,[],i=>by
   simp only [km,List.getElem?_nil]
   cases (x :: xs)[i]? <;> rfl
 | x :: xs,y :: ys,0=>by simp [km,BI]
 | x :: xs,y :: ys,i + 1=>by simp only [km,List.getElem?_cons_succ,vc xs ys i]
theorem oK:∀ (xs ys:List T),(km xs ys).length=min xs.length ys.length
 | [],ys=>by simp [km]
 | x :: xs,[]=>by simp [km]
 | x :: xs,y :: ys=>by simp only [km,List.length_cons,oK xs ys]; omega
theorem wx:∀ (xs:List T) (k i:Nat),(lM k xs)[i]?=(xs[i]?).map fun x=>.tup [.int ((k + i:Nat):Int),x]
 | [],_,_=>by simp [lM]
 | x :: xs,k,0=>by simp [lM]
 | x :: xs,k,i + 1=>by
   simp only [lM,List.getElem?_cons_succ]
   rw [wx xs (k + 1) i,show k + 1 + i=k + (i + 1) by omega]
theorem oN:∀ (xs:List T) (k:Nat),(lM k xs).length=xs.length
 | [],_=>rfl
 | x :: xs,k=>by simp [lM,oN xs]
theorem aR.get' {st:Sto} {us:List U} {ds:List T} (r:aR st us ds) (i:Nat):(∃ u d,us[i]?=some u∧ds[i]?=some d∧Rep st u d)∨(us[i]?=none∧ds[i]?=none):=by
 cases e:ds[i]? with
 | some d=>obtain ⟨u,h1,h2⟩:=r.get e; exact .inl ⟨u,d,h1,rfl,h2⟩
 | none=>exact .inr ⟨by rw [List.getElem?_eq_none_iff,r.length]; exact List.getElem?_eq_none_iff.mp e,rfl⟩
theorem SqR.at {h:Hd} {st:Sto} {q:Sq} {xs:List T} (s:SqR h st q xs) (w:Wf h st) (i:Nat):(xs[i]?=none∧q.at st i=some none)∨∃ x u,xs[i]?=some x∧q.at st i=some (some u)∧PX 0 h st u x:=by
 induction q generalizing xs with
 | vals us=>
   rcases s.1.get' i with ⟨u,d,h1,h2,h3⟩ | ⟨h1,h2⟩
   · exact .inr ⟨d,u,h2,by simp only [Sq.at,h1],h3,s.2 u (List.mem_of_getElem? h1)⟩
   · exact .inl ⟨h2,by simp only [Sq.at,h1]⟩
 | lst l=>
   obtain ⟨ng,fz,us,e,r⟩:=s
   rcases r.get' i with ⟨u,d,h1,h2,h3⟩ | ⟨h1,h2⟩
   · exact .inr ⟨d,u,h2,by simp only [Sq.at,e,Option.map_some,h1],.of h3 (w.av _ _ _ ng e u (List.mem_of_getElem? h1))⟩
   · exact .inl ⟨h2,by simp only [Sq.at,e,Option.map_some,h1]⟩
 | enu l=>
   obtain ⟨ng,fz,us,ys,e,r,rfl⟩:=s
   rw [wx,Nat.zero_add]
   rcases r.get' i with ⟨u,d,h1,h2,h3⟩ | ⟨h1,h2⟩
   · refine .inr ⟨_,.tup [.int (i:Nat),u],by rw [h2]; rfl,by simp only [Sq.at,e,Option.map_some,h1],.of (.tup (.cons .int (.cons h3 .nil))) ?_⟩
     refine Av.tup.mpr fun v hv=>?_
     simp only [List.mem_cons,List.not_mem_nil,or_false] at hv
     rcases hv with rfl | rfl
     · exact .int
     · exact w.av _ _ _ ng e _ (List.mem_of_getElem? h1)
   · exact .inl ⟨by rw [h2]; rfl,by simp only [Sq.at,e,Option.map_some,h1,Option.map_none]⟩
 | zip p q ihp ihq=>
   obtain ⟨as,bs,s1,s2,rfl⟩:=s
   rw [vc]
   rcases ihp s1 with ⟨a1,a2⟩ | ⟨x,u,a1,a2,a3⟩
   · rcases ihq s2 with ⟨b1,b2⟩ | ⟨y,v,b1,b2,b3⟩
     · exact .inl ⟨by rw [a1]; rfl,by simp only [Sq.at,a2,b2,Option.bind_some,Option.map_some]; rfl⟩
     · exact .inl ⟨by rw [a1]; rfl,by simp only [Sq.at,a2,b2,Option.bind_some,Option.map_some]; rfl⟩
   · rcases ihq s2 with ⟨b1,b2⟩ | ⟨y,v,b1,b2,b3⟩
     · exact .inl ⟨by rw [a1,b1]; rfl,by simp only [Sq.at,a2,b2,Option.bind_some,Option.map_some]; rfl⟩
     · refine .inr ⟨.tup [x,y],.tup [u,v],by rw [a1,b1]; rfl,by simp only [Sq.at,a2,b2,Option.bind_some,Option.map_some]; rfl,.of (.tup (.cons a3.1 (.cons b3.1 .nil))) ?_⟩
       refine Av.tup.mpr fun w hw=>?_
       simp only [List.mem_cons,List.not_mem_nil,or_false] at hw
       rcases hw with rfl | rfl
       · exact a3.2.zero
       · exact b3.2.zero
theorem SqR.len {h:Hd} {st:Sto} {q:Sq} {xs:List T} (s:SqR h st q xs):q.len st=xs.length:=by
 induction q generalizing xs with
 | vals us=>exact s.1.length
 | lst l=>
   obtain ⟨ng,fz,us,e,r⟩:=s
   simp only [Sq.len,e,Option.map_some,Option.getD_some,r.length]
 | enu l=>
   obtain ⟨ng,fz,us,ys,e,r,rfl⟩:=s
   simp only [Sq.len,e,Option.map_some,Option.getD_some,r.length,oN]
 | zip p q ihp ihq=>
   obtain ⟨as,bs,s1,s2,rfl⟩:=s
   simp only [Sq.len,ihp s1,ihq s2,oK]
theorem SqR.gr {h h':Hd} {st st':Sto} {q:Sq} {xs:List T} (s:SqR h st q xs) (g:Gr h st h' st'):SqR h' st' q xs:=by
 induction q generalizing xs with
 | vals us=>exact PXs.gr s g
 | lst l=>
   obtain ⟨ng,fz,us,e1,r⟩:=s
   exact ⟨fun z=>ng (g.gn l (List.getElem?_eq_some_iff.mp e1).1 z),fz,us,gL g.pre _ _ e1,r.ext g.pre⟩
 | enu l=>
   obtain ⟨ng,fz,us,ys,e1,r,rfl⟩:=s
   exact ⟨fun z=>ng (g.gn l (List.getElem?_eq_some_iff.mp e1).1 z),fz,us,ys,gL g.pre _ _ e1,r.ext g.pre,rfl⟩
 | zip p q ihp ihq=>
   obtain ⟨as,bs,s1,s2,rfl⟩:=s
   exact ⟨as,bs,ihp s1,ihq s2,rfl⟩
noncomputable def PO (h:Hd) (st:Sto):Option U→Option T→Prop
 | some u,some d=>PX 0 h st u d
 | none,none=>True
 | _,_=>False
theorem PO.gr {h h':Hd} {st st':Sto} {o:Option U} {p:Option T} (s:PO h st o p) (g:Gr h st h' st'):PO h' st' o p:=by
 cases o <;> cases p <;> first | exact s | exact PX.gr s g
theorem sS {R:Hd→Sto→Option U→Option T→Prop} {Q:Hd→Sto→List U→List T→Prop} {f:U→Sto→Rs (Option U)} {g:T→Ou (Option T)} {q:Sq} {xs:List T} {st0:Sto} {h0:Hd}
   (hf:∀ u x st' h',Gr h0 st0 h' st'→PX 0 h' st' u x→Gd h' st' R (f u st') (g x))
   (hn:∀ h st,Q h st [] []) (hc:∀ h st h' st' h2 st2 o o' ys ys',Gr h st h' st'→Gr h' st' h2 st2→R h' st' o o'→Q h2 st2 ys ys'→(st'=st'→True)→Q h2 st2 (match o with | some y=>y :: ys | none=>ys) (match o' with | some y=>y :: ys' | none=>ys')) :
   ∀ (n i:Nat) (st:Sto) (h:Hd),Gr h0 st0 h st→SqR h st q xs→i≤xs.length→i + n=xs.length + 1→Gd h st Q (iQ f q n i st) (dm g (xs.drop i))
 | 0,i,st,h,_,_,hi,e=>by omega
 | n + 1,i,st,h,p,s,hi,e=>by
   rw [iQ]
   rcases s.at p.wf i with ⟨e1,e2⟩ | ⟨x,u,e1,e2,px⟩
   · rw [e2]
     dsimp only
     rw [List.drop_eq_nil_of_le (List.getElem?_eq_none_iff.mp e1),dm]
     exact .ok p.wf (hn _ _)
   · rw [e2]
     dsimp only
     have hl:=(List.getElem?_eq_some_iff.mp e1).1
     have e3:xs.drop i=x :: xs.drop (i + 1):=by
       rw [List.drop_eq_getElem_cons hl]
       rw [(List.getElem?_eq_some_iff.mp e1).2]
     rw [e3,dm]
     refine (hf u x st h p px).bind fun o o' st1 h1 g1 ho=>?_
     refine (sS hf hn hc n (i + 1) st1 h1 (p.trans g1) (s.gr g1) hl (by omega)).bind fun ys ys' st2 h2 g2 hy=>?_
     exact .ok g2.wf (hc _ _ _ _ _ _ _ _ _ _ g1 g2 ho hy fun _=>trivial)
theorem tj {f:U→Sto→Rs (Option U)} {g:T→Ou (Option T)} {q:Sq} {xs:List T} {st0:Sto} {h0:Hd}
   (hf:∀ u x st' h',Gr h0 st0 h' st'→PX 0 h' st' u x→Gd h' st' PO (f u st') (g x)) (w:Wf h0 st0) (s:SqR h0 st0 q xs):Gd h0 st0 (PXs 0) (iQ f q (xs.length + 1) 0 st0) (dm g xs):=by
 have:=sS (R:=PO) (Q:=PXs 0) hf (fun _ _=>.nil) (fun h st h' st' h2 st2 o o' ys ys' g1 g2 ho hy _=>by
   have ho2:=ho.gr g2
   cases o <;> cases o' <;> first | exact ho2.elim | exact hy | exact .cons ho2 hy) (xs.length + 1) 0 st0 h0 (.refl w) s (Nat.zero_le _) (Nat.zero_add _)
 rwa [List.drop_zero] at this
end Sv
namespace Sv
open PySem PySem.Spec L2
open Ev (D aZ bp ai)
structure Ent (h:Hd) (st:Sto) (l:Nat) (cs:List Nat) (lv:Nat):Prop where
 hl:h.h l
 one:lv=1→¬ h.g l∧cs=[]∧∃ us,st[l]?=some (false,us)
 two:lv ≠ 1→lv=2∧h.g l∧st[l]?=some (false,cs.map .loc)∧∀ c ∈ cs,h.h c∧¬ h.g c∧∃ ws,st[c]?=some (false,ws)
 nd:(l :: cs).Nodup
noncomputable def FrR (lv:Nat) (st:Sto) (h':Hd) (st':Sto) (u:U) (d:T):Prop:=
 if lv=0∨isL d=false then PX 0 h' st' u d else Rep st' u d∧∃ l cs,u=.loc l∧Ent h' st' l cs lv∧∀ k ∈ l :: cs,st.length≤k
noncomputable def Pure (md:Md) (F:List U→Sto→Rs U) (G:List T→Ou T):Prop:=
 (md.sc=true→∀ ds d,G ds=.ok d→vg md.lv d=true)∧∀ h st us ds,Wf h st→PXs 0 h st us ds→Gd h st (FrR md.lv st) (F us st) (G ds)
noncomputable def Hd.less (h:Hd) (X:Nat→Prop):Hd:=⟨fun k=>h.h k∧¬ X k,fun k=>h.g k∧¬ X k,fun k z=>⟨h.sub k z.1,z.2⟩⟩
theorem Av.less {h:Hd} {X:Nat→Prop} {n:Nat} {u:U} (a:Av h n u):Av (h.less X) n u:=a.imp fun _ _ z=>z.1
theorem Ent.lt {h:Hd} {st:Sto} {l:Nat} {cs:List Nat} {lv:Nat} (e:Ent h st l cs lv):∀ k ∈ l :: cs,k < st.length:=by
 intro k hk
 by_cases z:lv=1
 · obtain ⟨_,rfl,us,e1⟩:=e.one z
   rw [List.mem_singleton] at hk
   subst hk
   exact (List.getElem?_eq_some_iff.mp e1).1
 · obtain ⟨_,_,e1,e2⟩:=e.two z
   rcases List.mem_cons.mp hk with rfl | hk
   · exact (List.getElem?_eq_some_iff.mp e1).1
   · obtain ⟨_,_,ws,e3⟩:=e2 k hk
     exact (List.getElem?_eq_some_iff.mp e3).1
theorem Ent.hid {h:Hd} {st:Sto} {l:Nat} {cs:List Nat} {lv:Nat} (e:Ent h st l cs lv):∀ k ∈ l :: cs,h.h k:=by
 intro k hk
 rcases List.mem_cons.mp hk with rfl | hk
 · exact e.hl
 · by_cases z:lv=1
   · obtain ⟨_,rfl,_⟩:=e.one z; cases hk
   · obtain ⟨_,_,e1,e2⟩:=e.two z
     exact (e2 k hk).1
theorem Wf.less {h:Hd} {st:Sto} {l:Nat} {cs:List Nat} {lv:Nat} (w:Wf h st) (e:Ent h st l cs lv):Wf (h.less fun k=>k ∈ l :: cs) st∧Av (h.less fun k=>k ∈ l :: cs) st.length (.loc l):=by
 refine ⟨⟨fun k fz us hk q u hu=>?_,fun k z=>w.lt k z.1⟩,.loc (e.lt l (List.mem_cons_self ..)) fun z=>z.2 (List.mem_cons_self ..)⟩
 by_cases hg:h.g k
 · have hx:k ∈ l :: cs:=Classical.byContradiction fun z=>hk ⟨hg,z⟩
   by_cases z:lv=1
   · obtain ⟨ng,rfl,_⟩:=e.one z
     rw [List.mem_singleton] at hx
     subst hx
     exact absurd hg ng
   · obtain ⟨_,gl,e1,e2⟩:=e.two z
     rcases List.mem_cons.mp hx with rfl | hx
     · rw [e1] at q; cases q
       obtain ⟨c,hc,rfl⟩:=List.mem_map.mp hu
       exact .loc (e.lt c (List.mem_cons_of_mem _ hc)) fun z=>z.2 (List.mem_cons_of_mem _ hc)
     · exact absurd hg (e2 k hx).2.1
 · exact (w.av k fz us hg q u hu).less
theorem FrR.out {lv:Nat} {h h':Hd} {st st':Sto} {u:U} {d:T} (w:Wf h st) (g:Gr h st h' st') (f:FrR lv st h' st' u d):∃ h'',Gr h st h'' st'∧PX 0 h'' st' u d:=by
 unfold FrR at f
 split at f
 · exact ⟨h',g,f⟩
 · obtain ⟨r,l,cs,rfl,e,n⟩:=f
   obtain ⟨w1,a1⟩:=g.wf.less e
   exact ⟨h'.less fun k=>k ∈ l :: cs,⟨g.pre,fun k z=>⟨g.hm k z,fun q=>absurd (w.lt k z) (Nat.not_lt.mpr (n k q))⟩,fun k z=>⟨g.gm k z,fun q=>absurd (w.lt k (h.sub k z)) (Nat.not_lt.mpr (n k q))⟩,fun k hk z=>g.hn k hk z.1,fun k hk z=>g.gn k hk z.1,w1⟩,r,.inl a1⟩
theorem Pure.plain {md:Md} {F:List U→Sto→Rs U} {G:List T→Ou T} (p:Pure md F G) {h:Hd} {st:Sto} {us:List U} {ds:List T} (w:Wf h st) (q:PXs 0 h st us ds):Gd h st (PX 0) (F us st) (G ds):=by
 have:=p.2 h st us ds w q
 cases e:G ds with
 | bad=>trivial
 | exc c=>rw [e] at this; exact this
 | ok d=>
   rw [e] at this
   obtain ⟨u,st',h',e1,g,f⟩:=this
   obtain ⟨h2,g2,px⟩:=f.out w g
   exact ⟨u,st',h2,e1,g2,px⟩
mutual
theorem sI {st:Sto}:∀ {u:U} {d:T},Rep st u d→flat d=true→locs u=[]
 | _,_,.non,_=>rfl
 | _,_,.bl,_=>rfl
 | _,_,.int,_=>rfl
 | _,_,.str,_=>rfl
 | _,_,.exo,_=>rfl
 | _,_,.tup r,h=>by simp only [locs]; exact jT r (by simpa [flat] using h)
 | _,_,.loc _ _,h=>by simp [flat] at h
 | _,_,.kl _,h=>by simp [flat] at h
theorem jT {st:Sto}:∀ {us:List U} {ds:List T},aR st us ds→sC ds=true→j6 us=[]
 | _,_,.nil,_=>rfl
 | _,_,.cons h r,e=>by
   rw [sC,Bool.and_eq_true] at e
   simp only [j6,sI h e.1,jT r e.2,List.append_nil]
end
theorem Pure.Dn {md:Md} {F:List U→Sto→Rs U} {G:List T→Ou T} (p:Pure md F G) (hs:md.sc=true) {h:Hd} {st:Sto} {us:List U} {ds:List T} (w:Wf h st) (q:PXs 2 h st us ds):Gd h st (FrR md.lv st) (F us st) (G ds):=by
 let X:Nat→Prop:=fun k=>∃ u ∈ us,k ∈ locs u∨∃ l fz vs,u=.loc l∧st[l]?=some (fz,vs)∧U.loc k ∈ vs
 have avl:∀ u ∈ us,Av (h.less X) st.length u:=fun u hu=>by
   rcases q.2 u hu with a | ⟨_,l,rfl,hl,_⟩ | ⟨_,l,rfl,d⟩
   · exact a.less
   · exact .loc hl fun z=>z.2 ⟨_,hu,.inl (by simp [locs])⟩
   · exact .loc d.lt fun z=>z.2 ⟨_,hu,.inl (by simp [locs])⟩
 have w1:Wf (h.less X) st:=by
   refine ⟨fun k fz vs hk e v hv=>?_,fun k z=>w.lt k z.1⟩
   by_cases hg:h.g k
   · have hx:X k:=Classical.byContradiction fun z=>hk ⟨hg,z⟩
     obtain ⟨u,hu,hx⟩:=hx
     rcases q.2 u hu with a | ⟨_,l,rfl,hl,ng⟩ | ⟨_,l,rfl,d⟩
     · rcases hx with hx | ⟨l,fz',vs',rfl,e',hm⟩
       · exact absurd (h.sub k hg) (a k hx).2
       · exact absurd (h.sub k hg) (w.av l fz' vs' (fun z=>(a l (by simp [locs])).2 (h.sub l z)) e' _ hm k (by simp [locs])).2
     · rcases hx with hx | ⟨l',fz',vs',z,e',hm⟩
       · have:k=l:=by simpa [locs] using hx
         subst this; exact absurd hg ng
       · cases z
         exact absurd (h.sub k hg) (w.av l fz' vs' ng e' _ hm k (by simp [locs])).2
     · obtain ⟨fz2,us2,e2,c2⟩:=d
       rcases hx with hx | ⟨l',fz',vs',z,e',hm⟩
       · have:k=l:=by simpa [locs] using hx
         subst this
         rw [e] at e2; cases e2
         obtain ⟨c,rfl,hc,_⟩:=c2 v hv
         exact .loc hc fun z=>z.2 ⟨_,hu,.inr ⟨k,fz,vs,rfl,e,hv⟩⟩
       · cases z
         rw [e'] at e2; cases e2
         obtain ⟨c,z,_,ng⟩:=c2 _ hm
         cases z
         exact absurd hg ng
   · exact (w.av k fz vs hg e v hv).less
 have g:=p.2 (h.less X) st us ds w1 ⟨q.1,fun u hu=>.inl (avl u hu)⟩
 have grow:∀ {h1:Hd} {st':Sto} (S:Nat→Prop),Gr (h.less X) st h1 st'→(∀ k fz vs,S k→st'[k]?=some (fz,vs)→j6 vs=[])→∃ h2,Gr h st h2 st'∧(∀ k,st.length≤k→k < st'.length→h2.h k)∧∀ k,st.length≤k→k < st'.length→(h2.g k ↔ ¬ S k):=fun {h1 st'} S g hS=>by
   refine ⟨⟨fun k=>h.h k∨(st.length≤k∧k < st'.length),fun k=>h.g k∨(st.length≤k∧k < st'.length∧¬ S k),fun k z=>z.imp (h.sub k) fun q=>⟨q.1,q.2.1⟩⟩,⟨g.pre,fun k z=>.inl z,fun k z=>.inl z,fun k hk z=>z.elim id fun q=>absurd hk (Nat.not_lt.mpr q.1),fun k hk z=>z.elim id fun q=>absurd hk (Nat.not_lt.mpr q.1),⟨fun k fz vs hk e v hv=>?_,fun k z=>z.elim (fun z=>Nat.lt_of_lt_of_le (w.lt k z) g.pre.length_le) fun q=>q.2⟩⟩,fun k h1 h2=>.inr ⟨h1,h2⟩,fun k h1 h2=>⟨fun z=>z.elim (fun z=>absurd (w.lt k (h.sub k z)) (Nat.not_lt.mpr h1)) fun z=>z.2.2,fun z=>.inr ⟨h1,h2,z⟩⟩⟩
   by_cases kl:k < st.length
   · have ng:¬ h.g k:=fun z=>hk (.inl z)
     obtain ⟨r,rfl⟩:=g.pre
     rw [List.getElem?_append_left kl] at e
     exact fun l hl=>⟨Nat.lt_of_lt_of_le (w.av k fz vs ng e v hv l hl).1 (by rw [List.length_append]; exact Nat.le_add_right _ _),fun z=>z.elim (w.av k fz vs ng e v hv l hl).2 fun q=>absurd (w.av k fz vs ng e v hv l hl).1 (Nat.not_lt.mpr q.1)⟩
   · have hk2:S k:=Classical.byContradiction fun z=>hk (.inr ⟨Nat.not_lt.mp kl,(List.getElem?_eq_some_iff.mp e).1,z⟩)
     have hv0:=hS k fz vs hk2 e
     exact fun l hl=>by
       have:l ∈ j6 vs:=fW.mpr ⟨v,hv,hl⟩
       rw [hv0] at this; cases this
 cases e:G ds with
 | bad=>trivial
 | exc c=>
   rw [e] at g
   obtain ⟨st',h1,e1,g1⟩:=g
   obtain ⟨h2,g2,_⟩:=grow (fun _=>False) g1 (fun _ _ _ z=>z.elim)
   exact ⟨st',h2,e1,g2⟩
 | ok d=>
   rw [e] at g
   have fl:=p.1 hs ds d e
   obtain ⟨u,st',h1,e1,g1,f⟩:=g
   unfold FrR at f
   split at f
   · rename_i hc
     obtain ⟨h2,g2,_⟩:=grow (fun _=>False) g1 (fun _ _ _ z=>z.elim)
     have fd:flat d=true:=by
       cases d with
       | lst xs=>
         rcases hc with hc | hc
         · rw [hc] at fl; simp [vg] at fl
         · simp [isL] at hc
       | _=>exact fl
     refine ⟨u,st',h2,e1,g2,?_⟩
     unfold FrR
     rw [if_pos hc]
     refine ⟨f.1,.inl fun l hl=>?_⟩
     rw [sI f.1 fd] at hl
     cases hl
   · rename_i hc
     obtain ⟨r,l,cs,rfl,en,nl⟩:=f
     cases r with
     | loc e2 r2=>
       rename_i fz' us' ds'
       simp only [vg] at fl
       by_cases z1:md.lv=1
       · rw [if_pos z1] at fl
         obtain ⟨h2,g2,a2,b2⟩:=grow (fun k=>k=l) g1 (fun k fz vs z q=>by
           subst z; rw [e2] at q; cases q; exact jT r2 fl)
         have lt:=en.lt l (List.mem_cons_self ..)
         have ge:=nl l (List.mem_cons_self ..)
         obtain ⟨_,c0,us0,e0⟩:=en.one z1
         refine ⟨.loc l,st',h2,e1,g2,?_⟩
         unfold FrR
         rw [if_neg hc]
         exact ⟨.loc e2 r2,l,cs,rfl,⟨a2 l ge lt,fun _=>⟨fun z=>(b2 l ge lt).mp z rfl,c0,us0,e0⟩,fun z=>absurd z1 z,en.nd⟩,nl⟩
       · obtain ⟨z2,_,e3,e4⟩:=en.two z1
         rw [if_neg z1,if_pos z2] at fl
         rw [e2] at e3; cases e3
         have key:∀ c ∈ cs,∀ fz vs,st'[c]?=some (fz,vs)→j6 vs=[]:=fun c hc' fz vs q=>by
           obtain ⟨i,hi,hi'⟩:=List.getElem_of_mem hc'
           have hl:i < ds'.length:=by rw [← r2.length,List.length_map]; exact hi
           obtain ⟨u,hu,ru⟩:=r2.get (List.getElem?_eq_getElem hl)
           rw [List.getElem?_map,List.getElem?_eq_getElem hi,Option.map_some] at hu
           cases hu
           have fx:=List.all_eq_true.mp fl _ (List.getElem_mem hl)
           rw [hi'] at ru
           generalize ds'[i]=x at ru fx
           cases ru with
           | loc e5 r5=>
             rw [e5] at q; cases q
             exact jT r5 (by simpa only [FL] using fx)
         obtain ⟨h2,g2,a2,b2⟩:=grow (fun k=>k ∈ cs) g1 (fun k fz vs z q=>key k z fz vs q)
         have lt:=en.lt
         refine ⟨.loc l,st',h2,e1,g2,?_⟩
         unfold FrR
         rw [if_neg hc]
         refine ⟨.loc e2 r2,l,cs,rfl,⟨a2 l (nl l (List.mem_cons_self ..)) (lt l (List.mem_cons_self ..)),fun z=>absurd z z1,fun _=>⟨z2,(b2 l (nl l (List.mem_cons_self ..)) (lt l (List.mem_cons_self ..))).mpr (List.nodup_cons.mp en.nd).1,e2,fun c hc'=>?_⟩,en.nd⟩,nl⟩
         have h1c:=nl c (List.mem_cons_of_mem _ hc')
         have h2c:=lt c (List.mem_cons_of_mem _ hc')
         exact ⟨a2 c h1c h2c,fun z=>(b2 c h1c h2c).mp z hc',(e4 c hc').2.2⟩
theorem Pure.LD {md:Md} {F:List U→Sto→Rs U} {G:List T→Ou T} (p:Pure md F G) (hs:md.sc=true) {h:Hd} {st:Sto} {us:List U} {ds:List T} (w:Wf h st) (q:PXs 2 h st us ds):Gd h st (PX 0) (F us st) (G ds):=by
 have:=p.Dn hs w q
 cases e:G ds with
 | bad=>trivial
 | exc c=>rw [e] at this; exact this
 | ok d=>
   rw [e] at this
   obtain ⟨u,st',h',e1,g,f⟩:=this
   obtain ⟨h2,g2,px⟩:=f.out w g
   exact ⟨u,st',h2,e1,g2,px⟩
theorem WE.set {h:Hd} {st:Sto} {ρ:Env} {τ:aC} {own:Own} (w:WE h st ρ τ own) {u:U} {d:T} (p:PX 0 h st u d) (i:Nat):WE h st (ρ.set i (some u)) (τ.set i (some d)) own:=by
 refine ⟨by rw [List.length_set,List.length_set]; exact w.len,fun j e q=>?_⟩
 by_cases z:i=j
 · subst z
   by_cases hl:i < τ.length
   · rw [List.getElem?_set_self hl] at q
     cases q
     exact ⟨u,List.getElem?_set_self (by rw [w.len]; exact hl),p.1,.inl p.av⟩
   · rw [List.getElem?_eq_none (by rw [List.length_set]; omega)] at q; cases q
 · rw [List.getElem?_set_ne z] at q
   rw [List.getElem?_set_ne z]
   exact w.val j e q
theorem uX {h:Hd} {st:Sto} {own:Own}:∀ {is:List Nat} {us:List U} {ds:List T} {ρ:Env} {τ τ':aC},WE h st ρ τ own→PXs 0 h st us ds→mr is ds τ=some τ'→∃ ρ',lZ is us ρ=some ρ'∧WE h st ρ' τ' own
 | [],_,_,ρ,τ,τ',w,⟨.nil,_⟩,e=>by cases e; exact ⟨ρ,rfl,w⟩
 | [],_,_,ρ,τ,τ',w,⟨.cons _ _,_⟩,e=>by cases e
 | i :: is,_,_,ρ,τ,τ',w,⟨.nil,_⟩,e=>by cases e
 | i :: is,_,_,ρ,τ,τ',w,⟨.cons (u:=u) (d:=d) r rs,a⟩,e=>by
   rw [mr] at e
   rw [lZ]
   exact uX (w.set ⟨r,a u (List.mem_cons_self ..)⟩ i) ⟨rs,fun v hv=>a v (List.mem_cons_of_mem _ hv)⟩ e
theorem uV {h:Hd} {st:Sto} {own:Own} {t:Tg} {u:U} {d:T} {ρ:Env} {τ τ':aC} (w:WE h st ρ τ own) (p:PX 0 h st u d) (e:aw t d τ=some τ'):∃ ρ',iz t u ρ=some ρ'∧WE h st ρ' τ' own:=by
 cases t with
 | nm i=>cases e; exact ⟨_,rfl,w.set p i⟩
 | tp is=>
   cases d with
   | tup ds=>
     obtain ⟨us,rfl,p'⟩:=iR (k':=0) p
     exact uX w p' e
   | _=>cases e
theorem WE.cap {h:Hd} {st:Sto} {ρ:Env} {τ:aC} {own:Own} (w:WE h st ρ τ own) {caps:List (Option Nat)} (hc:∀ i lv,(i,lv) ∈ own→some i ∉ caps):WE h st (ko ρ caps++[none]) (dB τ caps++[none]) []:=by
 refine ⟨by simp [ko,dB],fun i d e=>?_⟩
 by_cases hi:i < caps.length
 · rw [List.getElem?_append_left (by simp [dB]; exact hi)] at e
   unfold dB at e
   rw [List.getElem?_map] at e
   have hg:caps[i]?=some caps[i]:=List.getElem?_eq_getElem hi
   rw [hg] at e
   simp only [Option.map_some,Option.some.injEq] at e
   obtain ⟨j,e1,e2⟩:=Option.bind_eq_some_iff.mp e
   have e3:τ[j]?=some (some d):=by
     cases z:τ[j]? with
     | none=>rw [z] at e2; cases e2
     | some o=>rw [z] at e2; exact congrArg some e2
   obtain ⟨u,h1,h2,h3⟩:=w.val j d e3
   refine ⟨u,?_,h2,?_⟩
   · rw [List.getElem?_append_left (by simp [ko]; exact hi)]
     unfold ko
     rw [List.getElem?_map,hg,e1]
     simp [h1]
   · rcases h3 with h3 | ⟨lv,h3,_⟩
     · exact .inl h3
     · exact absurd (by rw [← e1]; exact List.getElem_mem hi) (hc j lv h3)
 · rw [List.getElem?_append_right (by simp [dB]; omega)] at e
   have:=List.mem_of_getElem? e
   simp at this
theorem JU {k:Nat} {h:Hd} {st:Sto} {l:Nat} {d:T} (hk:k≤1) (p:PX k h st (.loc l) d):¬ h.g l:=by
 rcases p.2 with a | ⟨_,k,z,_,ng⟩ | ⟨z,_⟩
 · exact fun q=>(a l (by simp [locs])).2 (h.sub l q)
 · cases z; exact ng
 · omega
theorem bS {a b:Bool} (h:(a || b)=false):a=false∧b=false:=by cases a <;> cases b <;> simp_all
theorem sA {k:Nat} {h:Hd} {st:Sto} (lo:Int) (n:Nat):PXs k h st (lO lo n) (rangeT lo n):=by
 unfold lO rangeT
 induction List.range n with
 | nil=>exact .nil
 | cons k ks ih=>exact .cons (.of .int .int) ih
theorem yO {k:Nat} {h:Hd} {st:Sto} {u:U} {xs:List T} (hk:k≤1) (w:Wf h st) (hx:PX k h st u (.lst xs)):∃ p,src st u=some p∧(k=0→SqN h p)∧SqR h st p xs:=by
 obtain ⟨us,⟨l,fz,rfl,e1⟩ | rfl,r⟩:=ig w hx
 · refine ⟨.lst l,?_,fun hb=>?_,JU hk hx,fz,us,e1,r.1⟩
   · simp only [src]
     rw [if_pos (List.getElem?_eq_some_iff.mp e1).1]
   · subst hb
     exact (hx.av l (by simp [locs])).2
 · exact ⟨.vals us,rfl,fun _=>trivial,r.mono (by omega)⟩
theorem zN {h:Hd} {st:Sto}:∀ (k:Nat) {us:List U} {ds:List T},PXs 0 h st us ds→PXs 0 h st (vx k us) (lM k ds)
 | _,_,_,⟨.nil,_⟩=>.nil
 | k,_,_,⟨.cons (u:=u) (us:=us) r rs,a⟩=>by
   have ih:=zN (k + 1) (us:=us) ⟨rs,fun v hv=>a v (List.mem_cons_of_mem _ hv)⟩
   refine .cons (.of (.tup (.cons .int (.cons r .nil))) (Av.tup.mpr fun w hw=>?_)) ih
   simp only [List.mem_cons,List.not_mem_nil,or_false] at hw
   rcases hw with rfl | rfl
   · exact .int
   · exact (a _ (List.mem_cons_self ..)).zero
theorem Dm {k:Nat} {h:Hd} {st:Sto} {o:Option Bool} {p:Option Bool} (w:Wf h st) (e:∀ r,p=some r→o=some r):Gd h st (PX k) (ofO o st) (ofB p):=by
 cases p with
 | none=>trivial
 | some r=>rw [e r rfl]; exact .ok w (.of .bl .bl)
section
variable {Φ:Fn} {Ψ:FnT} {μ:Nat→Md} (HP:∀ f,Pure (μ f) (Φ f) (Ψ f))
theorem xf {h:Hd} {st:Sto} {ρ:Env} {τ:aC} {t:Tg} {ifs:List E} {elt:E} (w:WE h st ρ τ [])
   (hi:∀ {h st ρ τ},WE h st ρ τ []→Wf h st→Gd h st (fun _ _ a b=>a=b) (xIf Φ ifs ρ st) (yIf Ψ ifs τ)) (he:∀ {h st ρ τ},WE h st ρ τ []→Wf h st→Gd h st (PX 0) (xE Φ elt ρ st) (yE Ψ elt τ)) :
   ∀ u x st' h',Gr h st h' st'→PX 0 h' st' u x→Gd h' st' PO
     (match iz t u ρ with
         | none=>.bad
         | some ρ1=>(xIf Φ ifs ρ1 st').bind fun b st2=>if b then (xE Φ elt ρ1 st2).bind fun y st3=>.ok (some y) st3 else .ok none st2)
     (match aw t x τ with
         | none=>.bad
         | some τ1=>(yIf Ψ ifs τ1).bind fun b=>if b then (yE Ψ elt τ1).bind fun y=>.ok (some y) else .ok none):=by
 intro u x st' h' g px
 cases z:aw t x τ with
 | none=>trivial
 | some τ1=>
   obtain ⟨ρ1,e1,w1⟩:=uV (w.gr g) px z
   rw [e1]
   dsimp only
   refine (hi w1 g.wf).bind fun b b' st2 h2 g2 hb=>?_
   have hb:b=b':=hb
   subst hb
   cases b with
   | true=>
     simp only [if_true]
     exact (he (w1.gr g2) g2.wf).bind fun y y' st3 h3 g3 hy=>.ok g3.wf hy
   | false=>exact .ok g2.wf trivial
noncomputable def fI (Φ:Fn) (ty:Ty) (ρ:Env):U→Sto→Rs (Option U):=fun x st=>match iz (.nm 0) x (ko ρ [none]++[none]) with
         | none=>.bad
         | some ρ1=>(xIf Φ [] ρ1 st).bind fun b st2=>if b then (xE Φ (.isi (.var 0) ty) ρ1 st2).bind fun y st3=>.ok (some y) st3 else .ok none st2
noncomputable def gI (Ψ:FnT) (ty:Ty) (τ:aC):T→Ou (Option T):=fun x=>match aw (.nm 0) x (dB τ [none]++[none]) with
         | none=>.bad
         | some τ1=>(yIf Ψ [] τ1).bind fun b=>if b then (yE Ψ (.isi (.var 0) ty) τ1).bind fun y=>.ok (some y) else .ok none
theorem K6 {st:Sto} {u:U} {x:T} {ty:Ty} {ρ:Env} {τ:aC} (r:Rep st u x):gI Ψ ty τ x=.bad∨∃ b,fI Φ ty ρ u st=.ok (some (.bl b)) st∧gI Ψ ty τ x=.ok (some (.bl b)):=by
 have e:=wV r ty
 cases r <;> first | exact Or.inl rfl | exact Or.inr ⟨_,rfl,(congrArg (fun b=>Ou.ok (some (T.bl b))) e).symm⟩
theorem qk {st:Sto} {q:Sq} {us:List U} {xs:List T} {ty:Ty} {ρ:Env} {τ:aC} (hq:∀ i,q.at st i=some us[i]?) (r:aR st us xs):∀ (n i:Nat),i≤xs.length→i + n=xs.length + 1→dm (gI Ψ ty τ) (xs.drop i)=.bad∨∃ bs:List Bool,iQ (fI Φ ty ρ) q n i st=.ok (bs.map .bl) st∧dm (gI Ψ ty τ) (xs.drop i)=.ok (bs.map .bl)
 | 0,i,hi,e=>by omega
 | n + 1,i,hi,e=>by
   rcases r.get' i with ⟨u,x,h1,h2,h3⟩ | ⟨h1,h2⟩
   · have hl:=(List.getElem?_eq_some_iff.mp h2).1
     have e3:xs.drop i=x :: xs.drop (i + 1):=by
       rw [List.drop_eq_getElem_cons hl,(List.getElem?_eq_some_iff.mp h2).2]
     rw [e3,dm]
     rcases K6 (Φ:=Φ) (Ψ:=Ψ) (ty:=ty) (ρ:=ρ) (τ:=τ) h3 with z | ⟨b,z1,z2⟩
     · exact Or.inl (by rw [z]; rfl)
     · rw [z2,Ou.aa]
       rcases qk hq r n (i + 1) hl (by omega) with w | ⟨bs,w1,w2⟩
       · exact Or.inl (by rw [w]; rfl)
       · refine Or.inr ⟨b :: bs,?_,by rw [w2]; rfl⟩
         rw [iQ,hq,h1]
         dsimp only
         rw [z1]
         show (iQ (fI Φ ty ρ) q n (i + 1) st).bind _=_
         rw [w1]
         rfl
   · refine Or.inr ⟨[],?_,?_⟩
     · rw [iQ,hq,h1]; rfl
     · rw [List.drop_eq_nil_of_le (List.getElem?_eq_none_iff.mp h2)]; rfl
theorem Cc {h:Hd} {st:Sto} {ρ:Env} {τ:aC} {own:Own} {v:Nat} {xs:List T} (w:WE h st ρ τ own) (h1:yIt Ψ (.seq (.var v)) τ=.ok xs):∃ q us,xIt Φ (.seq (.var v)) ρ st=.ok q st∧q.len st=xs.length∧(∀ i,q.at st i=some us[i]?)∧aR st us xs:=by
 simp only [yIt,yE] at h1
 cases hv:τ[v]? with
 | none=>simp [ax,hv,Ou.bind] at h1
 | some o=>
   cases o with
   | none=>simp [ax,hv,Ou.bind] at h1
   | some d=>
     obtain ⟨u,hu,r,_⟩:=w.val v d hv
     have gx:xE Φ (.var v) ρ st=.ok u st:=by simp only [xE,rA,hu]
     rw [show ax τ v=.ok d by simp only [ax,hv],Ou.aa] at h1
     cases r with
     | @loc l fz us ds e r=>
       cases h1
       refine ⟨.lst l,us,?_,?_,fun i=>?_,r⟩
       · simp only [xIt,gx,Rs.aa]
         rw [if_pos (List.getElem?_eq_some_iff.mp e).1]
       · simp only [Sq.len,e,Option.map_some,Option.getD_some]
         exact r.length
       · simp only [Sq.at,e,Option.map_some]
     | @kl us ds r=>
       cases h1
       exact ⟨.vals us,us,by simp only [xIt,gx,Rs.aa],r.length,fun i=>rfl,r⟩
     | @tup us ds r=>
       cases h1
       exact ⟨.vals us,us,by simp only [xIt,gx,Rs.aa],r.length,fun i=>rfl,r⟩
     | _=>cases h1
theorem yG {h:Hd} {st:Sto}:∀ bs:List Bool,PXs 0 h st (bs.map .bl) (bs.map .bl)
 | []=>.nil
 | b :: bs=>.cons (.of .bl .bl) (yG bs)
theorem FE {k:Nat} {h:Hd} {st:Sto} {ρ:Env} {τ:aC} {own:Own} {v:Nat} {ty:Ty} (w:WE h st ρ τ own) (wf:Wf h st):Gd h st (PX k) (xE Φ (.comp [none] (.nm 0) (.seq (.var v)) [] (.isi (.var 0) ty)) ρ st) (yE Ψ (.comp [none] (.nm 0) (.seq (.var v)) [] (.isi (.var 0) ty)) τ):=by
 cases h1:yIt Ψ (.seq (.var v)) τ with
 | bad=>simp only [yE,h1]; trivial
 | exc c=>
   exfalso
   simp only [yIt,yE,ax] at h1
   split at h1
   · simp only [Ou.aa] at h1
     split at h1 <;> cases h1
   · cases h1
 | ok xs=>
   obtain ⟨q,us,e1,e2,hq,r⟩:=Cc (Φ:=Φ) w h1
   simp only [xE,yE,h1,e1,Ou.aa,Rs.aa]
   rw [e2]
   split
   · have:=qk (Φ:=Φ) (Ψ:=Ψ) (ty:=ty) (ρ:=ρ) (τ:=τ) hq r (xs.length + 1) 0 (Nat.zero_le _) (Nat.zero_add _)
     rw [List.drop_zero] at this
     rcases this with z | ⟨bs,z1,z2⟩
     · show Gd h st (PX k) _ (Ou.noX (Ou.bind (dm (gI Ψ ty τ) xs) _))
       rw [z]
       trivial
     · show Gd h st (PX k) (Rs.noX (Rs.bind (iQ (fI Φ ty ρ) q (xs.length + 1) 0 st) _)) (Ou.noX (Ou.bind (dm (gI Ψ ty τ) xs) _))
       rw [z1,z2]
       exact Gd.noX (ju wf (yG bs))
   · trivial
include HP
mutual
theorem gE:∀ (e:E) (k:Nat) {h:Hd} {ρ:Env} {τ:aC} {own:Own} {st:Sto},WE h st ρ τ own→Wf h st→(∀ i lv,(i,lv) ∈ own→gts μ i lv k e=false)→Gd h st (PX k) (xE Φ e ρ st) (yE Ψ e τ)
 | .var i,k,h,ρ,τ,own,st,w,wf,hg=>by
   simp only [xE,yE,ax,rA]
   cases z:τ[i]? with
   | none=>trivial
   | some o=>
     cases o with
     | none=>trivial
     | some d=>
       obtain ⟨u,e1,e2,e3⟩:=w.val i d z
       rw [e1]
       refine .ok wf ⟨e2,?_⟩
       rcases e3 with e3 | ⟨lv,h1,h2⟩
       · exact .inl e3
       · have:=hg i lv h1
         simp only [gts,BEq.rfl,Bool.and_true,decide_eq_false_iff_not] at this
         exact h2.mono (by omega)
 | .cN,_,_,_,_,_,_,_,wf,_=>.ok wf (.of .non .non)
 | .cB _,_,_,_,_,_,_,_,wf,_=>.ok wf (.of .bl .bl)
 | .cI _,_,_,_,_,_,_,_,wf,_=>.ok wf (.of .int .int)
 | .cS _,_,_,_,_,_,_,_,wf,_=>.ok wf (.of .str .str)
 | .op o a c,k,h,ρ,τ,own,st,w,wf,hg=>by
   simp only [xE,yE]
   refine (gE a 1 w wf fun i lv hi=>(bS (by simpa only [gts] using hg i lv hi)).1).bind fun x x' st1 h1 g1 hx=>?_
   refine (gE c 1 (w.gr g1) g1.wf fun i lv hi=>(bS (by simpa only [gts] using hg i lv hi)).2).bind fun y y' st2 h2 g2 hy=>?_
   exact (Ep g2.wf (hx.gr g2) hy o).imp fun _ _ _ _ z=>z.weak
 | .neg a,k,h,ρ,τ,own,st,w,wf,hg=>by
   simp only [xE,yE]
   refine (gE a 2 w wf fun i lv hi=>(by simpa only [gts] using hg i lv hi)).bind fun x x' st1 h1 g1 hx=>?_
   cases x' with
   | int i=>have:=hx.1.int_inv; subst this; exact .ok g1.wf (.of .int .int)
   | _=>trivial
 | .not a,k,h,ρ,τ,own,st,w,wf,hg=>by
   simp only [xE,yE]
   refine (gE a 2 w wf fun i lv hi=>(by simpa only [gts] using hg i lv hi)).bind fun x x' st1 h1 g1 hx=>?_
   cases x' with
   | bl i=>have:=hx.1.jD; subst this; exact .ok g1.wf (.of .bl .bl)
   | _=>trivial
 | .cmp o a c,k,h,ρ,τ,own,st,w,wf,hg=>by
   simp only [xE,yE]
   refine (gE a 2 w wf fun i lv hi=>(bS (by simpa only [gts] using hg i lv hi)).1).bind fun x x' st1 h1 g1 hx=>?_
   refine (gE c 2 (w.gr g1) g1.wf fun i lv hi=>(bS (by simpa only [gts] using hg i lv hi)).2).bind fun y y' st2 h2 g2 hy=>?_
   exact Dm g2.wf fun r e=>uj (hx.1.ext g2.pre) hy.1 e
 | .chain o o' a c d,k,h,ρ,τ,own,st,w,wf,hg=>by
   simp only [xE,yE]
   refine (gE a 2 w wf fun i lv hi=>(bS (bS (by simpa only [gts] using hg i lv hi)).1).1).bind fun x x' st1 h1 g1 hx=>?_
   refine (gE c 2 (w.gr g1) g1.wf fun i lv hi=>(bS (bS (by simpa only [gts] using hg i lv hi)).1).2).bind fun y y' st2 h2 g2 hy=>?_
   cases z:zC o x' y' with
   | none=>trivial
   | some r=>
     rw [uj (hx.1.ext g2.pre) hy.1 z]
     cases r with
     | false=>exact .ok g2.wf (.of .bl .bl)
     | true=>
       dsimp only
       refine (gE d 2 ((w.gr g1).gr g2) g2.wf fun i lv hi=>(bS (by simpa only [gts] using hg i lv hi)).2).bind fun v v' st3 h3 g3 hv=>?_
       exact Dm g3.wf fun r e=>uj (hy.1.ext g3.pre) hv.1 e
 | .and a c,k,h,ρ,τ,own,st,w,wf,hg=>by
   simp only [xE,yE]
   refine (gE a 2 w wf fun i lv hi=>(bS (by simpa only [gts] using hg i lv hi)).1).bind fun x x' st1 h1 g1 hx=>?_
   cases x' with
   | bl r=>
     have:=hx.1.jD; subst this
     cases r with
     | false=>exact .ok g1.wf (.of .bl .bl)
     | true=>exact gE c k (w.gr g1) g1.wf fun i lv hi=>(bS (by simpa only [gts] using hg i lv hi)).2
   | _=>trivial
 | .or a c,k,h,ρ,τ,own,st,w,wf,hg=>by
   simp only [xE,yE]
   refine (gE a 2 w wf fun i lv hi=>(bS (by simpa only [gts] using hg i lv hi)).1).bind fun x x' st1 h1 g1 hx=>?_
   cases x' with
   | bl r=>
     have:=hx.1.jD; subst this
     cases r with
     | true=>exact .ok g1.wf (.of .bl .bl)
     | false=>exact gE c k (w.gr g1) g1.wf fun i lv hi=>(bS (by simpa only [gts] using hg i lv hi)).2
   | _=>trivial
 | .ite c a d,k,h,ρ,τ,own,st,w,wf,hg=>by
   simp only [xE,yE]
   refine (gE c 2 w wf fun i lv hi=>(bS (bS (by simpa only [gts] using hg i lv hi)).1).1).bind fun x x' st1 h1 g1 hx=>?_
   cases x' with
   | bl r=>
     have:=hx.1.jD; subst this
     cases r with
     | true=>exact gE a k (w.gr g1) g1.wf fun i lv hi=>(bS (bS (by simpa only [gts] using hg i lv hi)).1).2
     | false=>exact gE d k (w.gr g1) g1.wf fun i lv hi=>(bS (by simpa only [gts] using hg i lv hi)).2
   | _=>trivial
 | .tup es,k,h,ρ,τ,own,st,w,wf,hg=>by
   simp only [xE,yE]
   refine (gEs es 0 w wf fun i lv hi=>(by simpa only [gts] using hg i lv hi)).bind fun x x' st1 h1 g1 hx=>?_
   rw [hx.1.length]
   split
   · exact E1 g1.wf hx
   · trivial
 | .lst es,k,h,ρ,τ,own,st,w,wf,hg=>by
   simp only [xE,yE]
   refine (gEs es 0 w wf fun i lv hi=>(by simpa only [gts] using hg i lv hi)).bind fun x x' st1 h1 g1 hx=>?_
   rw [hx.1.length]
   split
   · exact ju g1.wf hx
   · trivial
 | .ix a c,k,h,ρ,τ,own,st,w,wf,hg=>by
   simp only [xE,yE]
   refine (gE a (k + 1) w wf fun i lv hi=>(bS (by simpa only [gts] using hg i lv hi)).1).bind fun x x' st1 h1 g1 hx=>?_
   refine (gE c 2 (w.gr g1) g1.wf fun i lv hi=>(bS (by simpa only [gts] using hg i lv hi)).2).bind fun y y' st2 h2 g2 hy=>?_
   exact Fd g2.wf (hx.gr g2) hy
 | .sl a c d,k,h,ρ,τ,own,st,w,wf,hg=>by
   simp only [xE,yE]
   refine (gE a 1 w wf fun i lv hi=>(bS (bS (by simpa only [gts] using hg i lv hi)).1).1).bind fun x x' st1 h1 g1 hx=>?_
   refine (gE c 2 (w.gr g1) g1.wf fun i lv hi=>(bS (bS (by simpa only [gts] using hg i lv hi)).1).2).bind fun y y' st2 h2 g2 hy=>?_
   cases z:kv c y' with
   | none=>trivial
   | some lo=>
     rw [pG hy.1 c z]
     dsimp only
     refine (gE d 2 ((w.gr g1).gr g2) g2.wf fun i lv hi=>(bS (by simpa only [gts] using hg i lv hi)).2).bind fun v v' st3 h3 g3 hv=>?_
     cases z2:kv d v' with
     | none=>trivial
     | some hi=>
       rw [pG hv.1 d z2]
       dsimp only
       cases x' with
       | lst xs=>
         obtain ⟨us,e1,_,p'⟩:=mC g3.wf ((hx.gr g2).gr g3)
         simp only [DH.eq_def,e1,zSl.eq_def]
         exact ju g3.wf (p'.cut lo hi)
       | _=>trivial
 | .call f es,k,h,ρ,τ,own,st,w,wf,hg=>by
   simp only [xE,yE]
   cases hs:(μ f).sc with
   | true=>
     refine (gEs es 2 w wf fun i lv hi=>(by simpa only [gts,hs,if_true] using hg i lv hi)).bind fun x x' st1 h1 g1 hx=>?_
     exact ((HP f).LD hs g1.wf hx).imp fun _ _ _ _ z=>z.weak
   | false=>
     refine (gEs es 0 w wf fun i lv hi=>(by simpa only [gts,hs,Bool.false_eq_true,if_false] using hg i lv hi)).bind fun x x' st1 h1 g1 hx=>?_
     exact ((HP f).plain g1.wf hx).imp fun _ _ _ _ z=>z.weak
 | .bi o es,k,h,ρ,τ,own,st,w,wf,hg=>by
   simp only [xE,yE]
   refine (gEs es (biK o) w wf fun i lv hi=>?_).bind fun x x' st1 h1 g1 hx=>?_
   · have:=hg i lv hi
     cases o <;> simpa only [gts,biK] using this
   · exact (EJ g1.wf o hx).imp fun _ _ _ _ z=>z.weak
 | .isi a t,k,h,ρ,τ,own,st,w,wf,hg=>by
   simp only [xE,yE]
   refine (gE a 2 w wf fun i lv hi=>(by simpa only [gts] using hg i lv hi)).bind fun x x' st1 h1 g1 hx=>?_
   have e:=wV hx.1 t
   obtain ⟨r,_⟩:=hx
   cases r <;> first | trivial | (dsimp only; rw [e]; exact .ok g1.wf (.of .bl .bl))
 | .isB n a t,k,h,ρ,τ,own,st,w,wf,hg=>by
   simp only [xE,yE]
   refine (gE a 2 w wf fun i lv hi=>(by simpa only [gts] using hg i lv hi)).bind fun x x' st1 h1 g1 hx=>?_
   rw [Fz hx.1]
   exact .ok g1.wf (.of .bl .bl)
 | .isN n a,k,h,ρ,τ,own,st,w,wf,hg=>by
   simp only [xE,yE]
   refine (gE a 2 w wf fun i lv hi=>(by simpa only [gts] using hg i lv hi)).bind fun x x' st1 h1 g1 hx=>?_
   rw [DN hx.1]
   exact .ok g1.wf (.of .bl .bl)
 | .comp caps t it ifs elt,k,h,ρ,τ,own,st,w,wf,hg=>by
   by_cases hs:spc caps t it ifs elt=true
   · obtain ⟨v,ty,rfl,rfl,rfl,rfl,rfl⟩:=tN hs
     exact FE w wf
   simp only [xE,yE]
   have hc:∀ i lv,(i,lv) ∈ own→some i ∉ caps:=fun i lv hi z=>by
     have:=(bS (by simpa only [gts] using hg i lv hi)).1
     rw [List.contains_iff_mem.mpr z] at this
     cases this
   refine (gIt it 1 (Nat.le_refl 1) w wf fun i lv hi=>(by have:=(bS (by simpa only [gts] using hg i lv hi)).2; rwa [if_neg hs] at this)).bind fun q xs st1 h1 g1 hq=>?_
   rw [hq.2.len]
   split
   · refine Gd.noX ?_
     refine Gd.bind (P:=PXs 0) ?_ fun us ds st2 h2 g2 hu=>ju g2.wf hu
     exact tj (xf ((w.gr g1).cap hc) (fun w' wf'=>gIf ifs w' wf' fun _ _ z=>nomatch z) fun w' wf'=>gE elt 0 w' wf' fun _ _ z=>nomatch z) g1.wf hq.2
   · trivial
theorem gEs:∀ (es:List E) (k:Nat) {h:Hd} {ρ:Env} {τ:aC} {own:Own} {st:Sto},WE h st ρ τ own→Wf h st→(∀ i lv,(i,lv) ∈ own→bQ μ i lv k es=false)→Gd h st (PXs k) (xEs Φ es ρ st) (yEs Ψ es τ)
 | [],k,_,_,_,_,_,_,wf,_=>.ok wf .nil
 | e :: es,k,h,ρ,τ,own,st,w,wf,hg=>by
   simp only [xEs,yEs]
   refine (gE e k w wf fun i lv hi=>(bS (by simpa only [bQ] using hg i lv hi)).1).bind fun x x' st1 h1 g1 hx=>?_
   refine (gEs es k (w.gr g1) g1.wf fun i lv hi=>(bS (by simpa only [bQ] using hg i lv hi)).2).bind fun y y' st2 h2 g2 hy=>?_
   exact .ok g2.wf (.cons (hx.gr g2) hy)
theorem gIf:∀ (es:List E) {h:Hd} {ρ:Env} {τ:aC} {own:Own} {st:Sto},WE h st ρ τ own→Wf h st→(∀ i lv,(i,lv) ∈ own→bQ μ i lv 2 es=false)→Gd h st (fun _ _ a b=>a=b) (xIf Φ es ρ st) (yIf Ψ es τ)
 | [],_,_,_,_,_,_,wf,_=>.ok wf rfl
 | e :: es,h,ρ,τ,own,st,w,wf,hg=>by
   simp only [xIf,yIf]
   refine (gE e 2 w wf fun i lv hi=>(bS (by simpa only [bQ] using hg i lv hi)).1).bind fun x x' st1 h1 g1 hx=>?_
   cases x' with
   | bl r=>
     have:=hx.1.jD; subst this
     cases r with
     | false=>exact .ok g1.wf rfl
     | true=>exact gIf es (w.gr g1) g1.wf fun i lv hi=>(bS (by simpa only [bQ] using hg i lv hi)).2
   | _=>trivial
theorem gIt:∀ (it:It) (k:Nat) {h:Hd} {ρ:Env} {τ:aC} {own:Own} {st:Sto},k≤1→WE h st ρ τ own→Wf h st→(∀ i lv,(i,lv) ∈ own→dI μ i lv k it=false) →
   Gd h st (fun h' st' q xs=>(k=0→SqN h' q)∧SqR h' st' q xs) (xIt Φ it ρ st) (yIt Ψ it τ)
 | .seq e,k,h,ρ,τ,own,st,hk,w,wf,hg=>by
   simp only [xIt,yIt]
   refine (gE e k w wf fun i lv hi=>(by simpa only [dI] using hg i lv hi)).bind fun x x' st1 h1 g1 hx=>?_
   cases x' with
   | lst xs=>
     obtain ⟨us,⟨l,fz,rfl,e1⟩ | rfl,r⟩:=ig g1.wf hx
     · dsimp only
       rw [if_pos (List.getElem?_eq_some_iff.mp e1).1]
       refine .ok g1.wf ⟨fun hb=>?_,JU hk hx,fz,us,e1,r.1⟩
       subst hb
       exact (hx.av l (by simp [locs])).2
     · exact .ok g1.wf ⟨fun _=>trivial,r.mono (by omega)⟩
   | tup xs=>
     obtain ⟨us,rfl,p'⟩:=iR (k':=0) hx
     exact .ok g1.wf ⟨fun _=>trivial,p'⟩
   | _=>trivial
 | .rng e,k,h,ρ,τ,own,st,hk,w,wf,hg=>by
   simp only [xIt,yIt]
   refine (gE e 2 w wf fun i lv hi=>(by simpa only [dI] using hg i lv hi)).bind fun x x' st1 h1 g1 hx=>?_
   cases x' with
   | int j=>
     have:=hx.1.int_inv; subst this
     dsimp only
     split
     · exact .ok g1.wf ⟨fun _=>trivial,sA _ _⟩
     · trivial
   | _=>trivial
 | .rng2 a c,k,h,ρ,τ,own,st,hk,w,wf,hg=>by
   simp only [xIt,yIt]
   refine (gE a 2 w wf fun i lv hi=>(bS (by simpa only [dI] using hg i lv hi)).1).bind fun x x' st1 h1 g1 hx=>?_
   refine (gE c 2 (w.gr g1) g1.wf fun i lv hi=>(bS (by simpa only [dI] using hg i lv hi)).2).bind fun y y' st2 h2 g2 hy=>?_
   cases x' with
   | int i=>
     have:=hx.1.int_inv; subst this
     cases y' with
     | int j=>
       have:=hy.1.int_inv; subst this
       dsimp only
       split
       · exact .ok g2.wf ⟨fun _=>trivial,sA _ _⟩
       · trivial
     | _=>trivial
   | _=>trivial
 | .enu e,k,h,ρ,τ,own,st,hk,w,wf,hg=>by
   simp only [xIt,yIt]
   refine (gE e k w wf fun i lv hi=>(by simpa only [dI] using hg i lv hi)).bind fun x x' st1 h1 g1 hx=>?_
   cases x' with
   | lst xs=>
     obtain ⟨us,⟨l,fz,rfl,e1⟩ | rfl,r⟩:=ig g1.wf hx
     · dsimp only
       rw [if_pos (List.getElem?_eq_some_iff.mp e1).1]
       refine .ok g1.wf ⟨fun hb=>?_,JU hk hx,fz,us,xs,e1,r.1,rfl⟩
       subst hb
       exact (hx.av l (by simp [locs])).2
     · exact .ok g1.wf ⟨fun _=>trivial,zN 0 (r.mono (by omega))⟩
   | _=>trivial
 | .zip a c,k,h,ρ,τ,own,st,hk,w,wf,hg=>by
   simp only [xIt,yIt]
   refine (gE a k w wf fun i lv hi=>(bS (by simpa only [dI] using hg i lv hi)).1).bind fun x x' st1 h1 g1 hx=>?_
   refine (gE c k (w.gr g1) g1.wf fun i lv hi=>(bS (by simpa only [dI] using hg i lv hi)).2).bind fun y y' st2 h2 g2 hy=>?_
   have hx2:=PX.gr hx g2
   cases x' with
   | lst xs=>
     cases y' with
     | lst ys=>
       obtain ⟨p,e1,n1,q1⟩:=yO hk g2.wf hx2
       obtain ⟨q,e2,n2,q2⟩:=yO hk g2.wf hy
       rw [e1,e2]
       exact .ok g2.wf ⟨fun hb=>⟨n1 hb,n2 hb⟩,xs,ys,q1,q2,rfl⟩
     | _=>trivial
   | _=>cases y' <;> trivial
end
end
end Sv
namespace Sv
open PySem PySem.Spec L2
open Ev (D aZ bp ai)
noncomputable def FrN (lv:Nat) (st:Sto) (h':Hd) (st':Sto) (u:U) (d:T):Prop:=Rep st' u d∧∃ l cs,u=.loc l∧Ent h' st' l cs lv∧∀ k ∈ l :: cs,st.length≤k
noncomputable def Hd.more (h:Hd) (X Y:Nat→Prop) (s:∀ k,Y k→X k):Hd:=⟨fun k=>h.h k∨X k,fun k=>h.g k∨Y k,fun k z=>z.imp (h.sub k) (s k)⟩
theorem zi {st:Sto} {c:Bool × List U}:(st++[c])[st.length]?=some c:=by rw [List.getElem?_append_right (Nat.le_refl _),Nat.sub_self]; rfl
theorem BM {h:Hd} {st:Sto} {us:List U} {ds:List T} (w:Wf h st) (p:PXs 0 h st us ds):∃ h',Gr h st h' (st++[(false,us)])∧FrN 1 st h' (st++[(false,us)]) (.loc st.length) (.lst ds):=by
 refine ⟨h.more (fun k=>k=st.length) (fun _=>False) (fun _ z=>z.elim),⟨iG,fun _ z=>.inl z,fun _ z=>.inl z,fun k hk z=>z.elim id fun q=>by omega,fun k hk z=>z.elim id fun q=>q.elim,⟨fun k fz vs hk e u hu=>?_,fun k z=>?_⟩⟩,(tw w p.1).1,st.length,[],rfl,⟨.inr rfl,fun _=>⟨fun z=>z.elim (fun z=>Nat.lt_irrefl _ (w.lt _ (h.sub _ z))) fun z=>z,rfl,us,zi⟩,fun z=>absurd rfl z,by simp⟩,fun k hk=>by rw [List.mem_singleton] at hk; omega⟩
 · have lift:∀ {v:U},Av h st.length v→Av (h.more (fun k=>k=st.length) (fun _=>False) (fun _ z=>z.elim)) (st++[(false,us)]).length v:=fun {v} a l hl=>by
     obtain ⟨a1,a2⟩:=a l hl
     refine ⟨by rw [List.length_append]; exact Nat.lt_add_right _ a1,fun z=>?_⟩
     rcases z with z | z
     · exact a2 z
     · omega
   rcases Nat.lt_or_ge k st.length with q | q
   · rw [List.getElem?_append_left q] at e
     exact lift (w.av k fz vs (fun z=>hk (.inl z)) e u hu)
   · rw [List.getElem?_append_right q] at e
     have:=List.mem_of_getElem? e
     rw [List.mem_singleton] at this
     cases this
     exact lift ((p.2 u hu).zero)
 · rw [List.length_append]
   rcases z with z | z
   · exact Nat.lt_add_right _ (w.lt k z)
   · subst z; exact Nat.lt_succ_self _
theorem AV {h:Hd} {st0 st:Sto} {cs:List Nat} {ds:List T} (w:Wf h st) (r:aR st (cs.map .loc) ds) (nd:cs.Nodup) (hl:st0.length≤st.length) (hc:∀ c ∈ cs,st0.length≤c∧h.h c∧¬ h.g c∧∃ ws,st[c]?=some (false,ws)) :
   ∃ h',Gr h st h' (st++[(false,cs.map .loc)])∧FrN 2 st0 h' (st++[(false,cs.map .loc)]) (.loc st.length) (.lst ds):=by
 have cl:∀ c ∈ cs,c < st.length:=fun c h=>let ⟨_,_,_,ws,e⟩:=hc c h; (List.getElem?_eq_some_iff.mp e).1
 refine ⟨h.more (fun k=>k=st.length) (fun k=>k=st.length) (fun _ z=>z),⟨iG,fun _ z=>.inl z,fun _ z=>.inl z,fun k hk z=>z.elim id fun q=>by omega,fun k hk z=>z.elim id fun q=>by omega,⟨fun k fz vs hk e u hu=>?_,fun k z=>?_⟩⟩,(tw w r).1,st.length,cs,rfl,⟨.inr rfl,fun z=>by omega,fun _=>⟨rfl,.inr rfl,zi,fun c hcm=>?_⟩,List.nodup_cons.mpr ⟨fun z=>Nat.lt_irrefl _ (cl _ z),nd⟩⟩,fun k hk=>?_⟩
 · have kl:k < st.length:=by
     have:=(List.getElem?_eq_some_iff.mp e).1
     rw [List.length_append] at this
     have ne:k ≠ st.length:=fun z=>hk (.inr z)
     simp at this
     omega
   rw [List.getElem?_append_left kl] at e
   intro l hl
   obtain ⟨a1,a2⟩:=w.av k fz vs (fun z=>hk (.inl z)) e u hu l hl
   refine ⟨by rw [List.length_append]; exact Nat.lt_add_right _ a1,fun z=>?_⟩
   rcases z with z | z
   · exact a2 z
   · omega
 · rw [List.length_append]
   rcases z with z | z
   · exact Nat.lt_add_right _ (w.lt k z)
   · subst z; exact Nat.lt_succ_self _
 · obtain ⟨_,h1,h2,ws,e⟩:=hc c hcm
   exact ⟨.inl h1,fun z=>z.elim h2 fun z=>absurd (cl c hcm) (by omega),ws,gL iG _ _ e⟩
 · rcases List.mem_cons.mp hk with rfl | hk
   · exact hl
   · exact (hc k hk).1
theorem Gr.Lu {h h':Hd} {st st':Sto} (g:Gr h st h' st') {c:Nat} (a:h.h c∧¬ h.g c∧∃ ws,st[c]?=some (false,ws)):h'.h c∧¬ h'.g c∧∃ ws,st'[c]?=some (false,ws):=by
 obtain ⟨a1,a2,ws,a3⟩:=a
 exact ⟨g.hm c a1,fun z=>a2 (g.gn c (List.getElem?_eq_some_iff.mp a3).1 z),ws,gL g.pre _ _ a3⟩
noncomputable def RN (st:Sto) (h2:Hd) (st2:Sto):Option U→Option T→Prop
 | some u,some d=>Rep st2 u d∧∃ c,u=.loc c∧st.length≤c∧h2.h c∧¬ h2.g c∧∃ ws,st2[c]?=some (false,ws)
 | none,none=>True
 | _,_=>False
theorem qz {f:U→Sto→Rs (Option U)} {g:T→Ou (Option T)} {q:Sq} {xs:List T} {st0:Sto} {h0:Hd}
   (hf:∀ u x st' h' o',Gr h0 st0 h' st'→PX 0 h' st' u x→g x=.ok o'→(∀ d,o'=some d→isL d=true)→∃ o st2 h2,f u st'=.ok o st2∧Gr h' st' h2 st2∧RN st' h2 st2 o o') :
   ∀ (n i:Nat) (st:Sto) (h:Hd) (ds:List T),Gr h0 st0 h st→SqR h st q xs→i≤xs.length→i + n=xs.length + 1→dm g (xs.drop i)=.ok ds→ds.all isL=true →
     ∃ (cs:List Nat) (st':Sto) (h':Hd),iQ f q n i st=.ok (cs.map .loc) st'∧Gr h st h' st'∧aR st' (cs.map .loc) ds∧cs.Nodup∧∀ c ∈ cs,st.length≤c∧h'.h c∧¬ h'.g c∧∃ ws,st'[c]?=some (false,ws)
 | 0,i,st,h,ds,_,_,hi,e,_,_=>by omega
 | n + 1,i,st,h,ds,p,s,hi,e,hy,ha=>by
   rw [iQ]
   rcases s.at p.wf i with ⟨e1,e2⟩ | ⟨x,u,e1,e2,px⟩
   · rw [List.drop_eq_nil_of_le (List.getElem?_eq_none_iff.mp e1),dm] at hy
     cases hy
     exact ⟨[],st,h,by rw [e2]; rfl,.refl p.wf,.nil,List.nodup_nil,(by intro c hc; cases hc)⟩
   · have hl:=(List.getElem?_eq_some_iff.mp e1).1
     have e3:xs.drop i=x :: xs.drop (i + 1):=by
       rw [List.drop_eq_getElem_cons hl]
       rw [(List.getElem?_eq_some_iff.mp e1).2]
     rw [e3,dm,Ou.bN] at hy
     obtain ⟨o',hg,hy⟩:=hy
     rw [Ou.bN] at hy
     obtain ⟨ys,hy,hz⟩:=hy
     have hal:(∀ d,o'=some d→isL d=true)∧ys.all isL=true:=by
       cases o' with
       | none=>cases hz; exact ⟨(fun _ z=>by cases z),ha⟩
       | some d=>
         cases hz
         rw [List.all_cons,Bool.and_eq_true] at ha
         exact ⟨(fun d' z=>by cases z; exact ha.1),ha.2⟩
     obtain ⟨o,st1,h1,f1,g1,rn⟩:=hf u x st h o' p px hg hal.1
     obtain ⟨cs,st2,h2,f2,g2,r2,n2,c2⟩:=qz hf n (i + 1) st1 h1 ys (p.trans g1) (s.gr g1) hl (by omega) hy hal.2
     rw [e2]
     dsimp only
     rw [f1,Rs.aa,f2,Rs.aa]
     cases o with
     | none=>
       cases o' with
       | none=>cases hz; exact ⟨cs,st2,h2,rfl,g1.trans g2,r2,n2,fun c hc=>⟨Nat.le_trans g1.pre.length_le (c2 c hc).1,(c2 c hc).2⟩⟩
       | some d=>exact rn.elim
     | some v=>
       cases o' with
       | none=>exact rn.elim
       | some d=>
         cases hz
         obtain ⟨rv,c,rfl,hc,hh⟩:=rn
         have hcl:c < st1.length:=by obtain ⟨_,_,ws,e⟩:=hh; exact (List.getElem?_eq_some_iff.mp e).1
         refine ⟨c :: cs,st2,h2,rfl,g1.trans g2,.cons (rv.ext g2.pre) r2,List.nodup_cons.mpr ⟨fun z=>absurd (c2 c z).1 (by omega),n2⟩,fun k hk=>?_⟩
         rcases List.mem_cons.mp hk with rfl | hk
         · exact ⟨hc,g2.Lu hh⟩
         · exact ⟨Nat.le_trans g1.pre.length_le (c2 k hk).1,(c2 k hk).2⟩
theorem Ent.down {h:Hd} {st:Sto} {l:Nat} {cs:List Nat} (w:Wf h st) (e:Ent h st l cs 2):∃ h',(∀ k,h'.h k→h.h k)∧(∀ k,h'.g k→h.g k)∧(∀ k,k ∉ l :: cs→(h.h k→h'.h k)∧(h.g k→h'.g k))∧(∀ c ∈ cs,¬ h'.h c)∧Wf h' st∧Ent h' st l [] 1:=by
 obtain ⟨_,gl,e1,e2⟩:=e.two (by decide)
 have nl:l ∉ cs:=(List.nodup_cons.mp e.nd).1
 refine ⟨⟨fun k=>h.h k∧k ∉ cs,fun k=>h.g k∧k ∉ l :: cs,fun k z=>⟨h.sub k z.1,fun q=>z.2 (List.mem_cons_of_mem _ q)⟩⟩,fun k z=>z.1,fun k z=>z.1,fun k hk=>⟨fun z=>⟨z,fun q=>hk (List.mem_cons_of_mem _ q)⟩,fun z=>⟨z,hk⟩⟩,fun c hc z=>z.2 hc,⟨fun k fz us hk q u hu=>?_,fun k z=>w.lt k z.1⟩,⟨⟨e.hl,nl⟩,fun _=>⟨fun z=>z.2 (List.mem_cons_self ..),rfl,_,e1⟩,fun z=>absurd rfl z,by simp⟩⟩
 by_cases hg:h.g k
 · have hx:k ∈ l :: cs:=Classical.byContradiction fun z=>hk ⟨hg,z⟩
   rcases List.mem_cons.mp hx with rfl | hx
   · rw [e1] at q; cases q
     obtain ⟨c,hc,rfl⟩:=List.mem_map.mp hu
     exact .loc (e.lt c (List.mem_cons_of_mem _ hc)) fun z=>z.2 hc
   · exact absurd hg (e2 k hx).2.1
 · exact (w.av k fz us hg q u hu).imp fun _ _ z=>z.1
theorem FrN.down {h:Hd} {st st':Sto} {h':Hd} {u:U} {d:T} (w:Wf h st) (g:Gr h st h' st') (f:FrN 2 st h' st' u d):∃ h'',Gr h st h'' st'∧FrN 1 st h'' st' u d:=by
 obtain ⟨r,l,cs,rfl,e,n⟩:=f
 obtain ⟨h2,a1,a2,a3,_,w2,e2⟩:=Ent.down g.wf e
 have out:∀ k,h.h k→k ∉ l :: cs:=fun k z q=>absurd (w.lt k z) (Nat.not_lt.mpr (n k q))
 exact ⟨h2,⟨g.pre,fun k z=>(a3 k (out k z)).1 (g.hm k z),fun k z=>(a3 k (out k (h.sub k z))).2 (g.gm k z),fun k hk z=>g.hn k hk (a1 k z),fun k hk z=>g.gn k hk (a2 k z),w2⟩,r,l,[],rfl,e2,fun k hk=>n k (by rw [List.mem_singleton] at hk; subst hk; exact List.mem_cons_self ..)⟩
theorem FrR.n {lv:Nat} {st:Sto} {h':Hd} {st':Sto} {u:U} {d:T} (f:FrR lv st h' st' u d) (h1:lv ≠ 0) (h2:isL d=true):FrN lv st h' st' u d:=by
 unfold FrR at f
 rw [if_neg (by rw [h2]; simp [h1])] at f
 exact f
theorem FrN.r {lv:Nat} {st:Sto} {h':Hd} {st':Sto} {u:U} {d:T} (f:FrN lv st h' st' u d) (h1:lv ≠ 0) (h2:isL d=true):FrR lv st h' st' u d:=by
 unfold FrR
 rw [if_neg (by rw [h2]; simp [h1])]
 exact f
theorem Gr.frn {lv:Nat} {h h1 h2:Hd} {st st1 st2:Sto} {u:U} {d:T} (g:Gr h st h1 st1) (f:FrN lv st1 h2 st2 u d):FrN lv st h2 st2 u d:=by
 obtain ⟨r,l,cs,e1,e,n⟩:=f
 exact ⟨r,l,cs,e1,e,fun k hk=>Nat.le_trans g.pre.length_le (n k hk)⟩
section
variable {Φ:Fn} {Ψ:FnT} {μ:Nat→Md} (HP:∀ f,Pure (μ f) (Φ f) (Ψ f))
include HP
theorem gN1:∀ (e:E) {h:Hd} {ρ:Env} {τ:aC} {own:Own} {st:Sto},WE h st ρ τ own→Wf h st→(∀ i lv,(i,lv) ∈ own→gts μ i lv 0 e=false)→1≤cD μ e→∀ ds,yE Ψ e τ=.ok (.lst ds) →
   ∃ u st' h',xE Φ e ρ st=.ok u st'∧Gr h st h' st'∧FrN 1 st h' st' u (.lst ds):=by
 intro e h ρ τ own st w wf hg hf ds hy
 have fin:∀ {st1:Sto} {h1:Hd} {us:List U},Gr h st h1 st1→PXs 0 h1 st1 us ds→xE Φ e ρ st=new st1 us→∃ u st' h',xE Φ e ρ st=.ok u st'∧Gr h st h' st'∧FrN 1 st h' st' u (.lst ds):=fun {st1 h1 us} g p e=>by
   obtain ⟨h2,g2,f2⟩:=BM g.wf p
   exact ⟨_,_,h2,e,g.trans g2,g.frn f2⟩
 cases e with
 | lst es=>
   simp only [yE,Ou.bN] at hy
   obtain ⟨xs,h1,h2⟩:=hy
   split at h2
   · rename_i hl
     cases h2
     obtain ⟨us,st1,hh,e1,g1,r1⟩:=(gEs HP es 0 w wf fun i lv hi=>(by simpa only [gts] using hg i lv hi)).inv h1
     refine fin g1 r1 ?_
     simp only [xE,e1,Rs.aa]
     rw [r1.1.length,if_pos hl]
   · cases h2
 | comp caps t it ifs elt=>
   by_cases hs:spc caps t it ifs elt=true
   · obtain ⟨v,ty,rfl,rfl,rfl,rfl,rfl⟩:=tN hs
     simp only [yE,Ou.bN] at hy
     obtain ⟨xs,h1,h2⟩:=hy
     split at h2
     · rename_i hl
       obtain ⟨q,us,e1,e2,hq,r⟩:=Cc (Φ:=Φ) w h1
       have:=qk (Φ:=Φ) (Ψ:=Ψ) (ty:=ty) (ρ:=ρ) (τ:=τ) hq r (xs.length + 1) 0 (Nat.zero_le _) (Nat.zero_add _)
       rw [List.drop_zero] at this
       have h2':(Ou.noX (Ou.bind (dm (gI Ψ ty τ) xs) fun ys=>Ou.ok (T.lst ys)))=Ou.ok (T.lst ds):=h2
       rcases this with z | ⟨bs,z1,z2⟩
       · rw [z] at h2'; cases h2'
       · rw [z2] at h2'
         simp only [Ou.aa,Ou.de,Ou.ok.injEq,T.lst.injEq] at h2'
         subst h2'
         refine fin (.refl wf) (yG bs) ?_
         simp only [xE,e1,Rs.aa]
         rw [e2,if_pos hl]
         exact congrArg (fun z:Rs (List U)=>(z.bind fun ys st2=>new st2 ys).noX) z1
     · cases h2
   simp only [yE,Ou.bN] at hy
   obtain ⟨xs,h1,h2⟩:=hy
   split at h2
   · rename_i hl
     have hc:∀ i lv,(i,lv) ∈ own→some i ∉ caps:=fun i lv hi z=>by
       have:=(bS (by simpa only [gts] using hg i lv hi)).1
       rw [List.contains_iff_mem.mpr z] at this
       cases this
     obtain ⟨q,st1,hh1,e1,g1,hq⟩:=(gIt HP it 1 (Nat.le_refl 1) w wf fun i lv hi=>(by have:=(bS (by simpa only [gts] using hg i lv hi)).2; rwa [if_neg hs] at this)).inv h1
     have g:=tj (xf (t:=t) ((w.gr g1).cap hc) (fun w' wf'=>gIf HP ifs w' wf' fun _ _ z=>nomatch z) fun w' wf'=>gE HP elt 0 w' wf' fun _ _ z=>nomatch z) g1.wf hq.2
     generalize hz:dm _ xs=z at h2 g
     cases z with
     | bad=>cases h2
     | exc c=>cases h2
     | ok ys=>
       simp only [Ou.aa,Ou.de,Ou.ok.injEq,T.lst.injEq] at h2
       subst h2
       obtain ⟨us,st2,hh2,e2,g2,r2⟩:=g
       refine fin (g1.trans g2) r2 ?_
       simp only [xE,e1,Rs.aa]
       rw [hq.2.len,if_pos hl]
       exact congrArg (fun z:Rs (List U)=>(z.bind fun ys st2=>new st2 ys).noX) e2
   · cases h2
 | sl a c d=>
   simp only [yE,Ou.bN] at hy
   obtain ⟨x',h1,y',h2,h3⟩:=hy
   obtain ⟨x,st1,hh1,e1,g1,hx⟩:=(gE HP a 1 w wf fun i lv hi=>(bS (bS (by simpa only [gts] using hg i lv hi)).1).1).inv h1
   obtain ⟨y,st2,hh2,e2,g2,hy⟩:=(gE HP c 2 (w.gr g1) g1.wf fun i lv hi=>(bS (bS (by simpa only [gts] using hg i lv hi)).1).2).inv h2
   split at h3
   · cases h3
   · rename_i lo hlo
     simp only [Ou.bN] at h3
     obtain ⟨v',h3,h4⟩:=h3
     obtain ⟨v,st3,hh3,e3,g3,hv⟩:=(gE HP d 2 ((w.gr g1).gr g2) g2.wf fun i lv hi=>(bS (by simpa only [gts] using hg i lv hi)).2).inv h3
     split at h4
     · cases h4
     · rename_i hi hhi
       cases x' with
       | lst xs=>
         obtain ⟨us,e4,_,p'⟩:=mC g3.wf ((hx.gr g2).gr g3)
         simp only [zSl.eq_def,Ou.ok.injEq,T.lst.injEq] at h4
         subst h4
         refine fin ((g1.trans g2).trans g3) (p'.cut lo hi) ?_
         simp only [xE,e1,e2,e3,Rs.aa,pG hy.1 c hlo,pG hv.1 d hhi,DH.eq_def,e4]
       | _=>cases h4
 | op o a c=>
   cases o <;> first | (simp [cD] at hf; done) | skip
   simp only [yE,Ou.bN] at hy
   obtain ⟨x',h1,y',h2,h3⟩:=hy
   obtain ⟨x,st1,hh1,e1,g1,hx⟩:=(gE HP a 1 w wf fun i lv hi=>(bS (by simpa only [gts] using hg i lv hi)).1).inv h1
   obtain ⟨y,st2,hh2,e2,g2,hy⟩:=(gE HP c 1 (w.gr g1) g1.wf fun i lv hi=>(bS (by simpa only [gts] using hg i lv hi)).2).inv h2
   cases x' with
   | lst xs=>
     cases y' with
     | lst ys=>
       obtain ⟨us,c1,r1⟩:=ig g2.wf (hx.gr g2)
       obtain ⟨vs,c2,r2⟩:=ig g2.wf hy
       simp only [z2.eq_def] at h3
       split at h3
       · rename_i hl
         cases h3
         refine fin (g1.trans g2) (r1.append r2) ?_
         simp only [xE,e1,e2,Rs.aa,zD c1 c2]
         rw [r1.1.length,r2.1.length,if_pos hl]
       · cases h3
     | _=>simp [z2.eq_def] at h3
   | int i=>
     cases y' <;> simp [z2.eq_def] at h3
   | str i=>
     cases y' <;> simp [z2.eq_def] at h3
     split at h3 <;> cases h3
   | tup i=>
     cases y' <;> simp only [z2.eq_def] at h3 <;> first | (cases h3; done) | (split at h3 <;> cases h3)
   | _=>simp [z2.eq_def] at h3
 | bi o es=>
   cases o <;> first | (simp [cD] at hf; done) | skip
   simp only [yE,Ou.bN] at hy
   obtain ⟨xs',h1,h2⟩:=hy
   obtain ⟨xs,st1,hh1,e1,g1,hx⟩:=(gEs HP es 1 w wf fun i lv hi=>(by simpa only [gts] using hg i lv hi)).inv h1
   match xs',hx,h2 with
   | [a],⟨.cons (u:=x) r .nil,hp⟩,h2=>
     have px:PX 1 hh1 st1 x a:=⟨r,hp x (List.mem_singleton_self x)⟩
     cases a with
     | lst ys=>
       obtain ⟨vs,e3,e4,p'⟩:=mC g1.wf px
       simp only [zB.eq_def,Ou.ok.injEq,T.lst.injEq] at h2
       subst h2
       refine fin g1 p' ?_
       simp only [xE,e1,Rs.aa]
       simp only [evB.eq_def,e4]
     | tup ys=>
       obtain ⟨vs,rfl,p'⟩:=iR (k':=0) px
       simp only [zB.eq_def,Ou.ok.injEq,T.lst.injEq] at h2
       subst h2
       refine fin g1 p' ?_
       simp only [xE,e1,Rs.aa]
       simp only [evB.eq_def,seq?]
     | _=>cases h2
   | [],_,h2=>cases h2
   | a :: b :: r,_,h2=>cases a <;> cases h2
 | call f es=>
   simp only [yE,Ou.bN] at hy
   obtain ⟨xs',h1,h2⟩:=hy
   obtain ⟨xs,st1,hh1,e1,g1,u,st2,hh2,e2,g2,f2⟩:∃ xs st1 hh1,xEs Φ es ρ st=.ok xs st1∧Gr h st hh1 st1∧∃ u st2 hh2,Φ f xs st1=.ok u st2∧Gr hh1 st1 hh2 st2∧FrR (μ f).lv st1 hh2 st2 u (.lst ds):=by
     cases hs:(μ f).sc with
     | false=>
       obtain ⟨xs,st1,hh1,e1,g1,hx⟩:=(gEs HP es 0 w wf fun i lv hi=>(by simpa only [gts,hs,Bool.false_eq_true,if_false] using hg i lv hi)).inv h1
       obtain ⟨u,st2,hh2,e2,g2,f2⟩:=((HP f).2 hh1 st1 xs xs' g1.wf hx).inv h2
       exact ⟨xs,st1,hh1,e1,g1,u,st2,hh2,e2,g2,f2⟩
     | true=>
       obtain ⟨xs,st1,hh1,e1,g1,hx⟩:=(gEs HP es 2 w wf fun i lv hi=>(by simpa only [gts,hs,if_true] using hg i lv hi)).inv h1
       obtain ⟨u,st2,hh2,e2,g2,f2⟩:=((HP f).Dn hs g1.wf hx).inv h2
       exact ⟨xs,st1,hh1,e1,g1,u,st2,hh2,e2,g2,f2⟩
   have hf:1≤(μ f).lv:=hf
   have fn:=f2.n (by omega) rfl
   have hE:xE Φ (.call f es) ρ st=.ok u st2:=by simp only [xE,e1,Rs.aa,e2]
   have uF:(μ f).lv=1∨(μ f).lv=2:=by
     obtain ⟨_,l,cs,_,e,_⟩:=fn
     by_cases z:(μ f).lv=1
     · exact .inl z
     · exact .inr (e.two z).1
   rcases uF with z | z
   · rw [z] at fn
     exact ⟨u,st2,hh2,hE,g1.trans g2,g1.frn fn⟩
   · rw [z] at fn
     obtain ⟨h3,g3,f3⟩:=fn.down g1.wf g2
     exact ⟨u,st2,h3,hE,g1.trans g3,g1.frn f3⟩
 | _=>simp [cD] at hf
theorem gN2 (e:E) {h:Hd} {ρ:Env} {τ:aC} {own:Own} {st:Sto} (w:WE h st ρ τ own) (wf:Wf h st) (hg:∀ i lv,(i,lv) ∈ own→gts μ i lv 0 e=false) (hf:2≤cD μ e) (ds:List T) (hy:yE Ψ e τ=.ok (.lst ds)) (ha:ds.all isL=true) :
   ∃ u st' h',xE Φ e ρ st=.ok u st'∧Gr h st h' st'∧FrN 2 st h' st' u (.lst ds):=by
 cases e with
 | comp caps t it ifs elt=>
   have hfe:1≤cD μ elt:=by
     simp only [cD] at hf
     split at hf
     · omega
     · omega
   have hs:¬ spc caps t it ifs elt=true:=fun z=>by
     obtain ⟨v,ty,rfl,rfl,rfl,rfl,rfl⟩:=tN z
     simp [cD] at hfe
   simp only [yE,Ou.bN] at hy
   obtain ⟨xs,h1,h2⟩:=hy
   split at h2
   · rename_i hl
     have hc:∀ i lv,(i,lv) ∈ own→some i ∉ caps:=fun i lv hi z=>by
       have:=(bS (by simpa only [gts] using hg i lv hi)).1
       rw [List.contains_iff_mem.mpr z] at this
       cases this
     obtain ⟨q,st1,hh1,e1,g1,hq⟩:=(gIt HP it 1 (Nat.le_refl 1) w wf fun i lv hi=>(by have:=(bS (by simpa only [gts] using hg i lv hi)).2; rwa [if_neg hs] at this)).inv h1
     generalize hgf:(fun x=>match aw t x (dB τ caps++[none]) with
         | none=>(Ou.bad:Ou (Option T))
         | some τ1=>(yIf Ψ ifs τ1).bind fun b=>if b then (yE Ψ elt τ1).bind fun y=>.ok (some y) else .ok none)=gf at h2
     cases hz:dm gf xs with
     | bad=>rw [hz] at h2; cases h2
     | exc c=>rw [hz] at h2; cases h2
     | ok ys=>
       rw [hz] at h2
       simp only [Ou.aa,Ou.de,Ou.ok.injEq,T.lst.injEq] at h2
       subst h2
       have wc:=(w.gr g1).cap hc
       obtain ⟨cs,st2,h2,e2,g2,r2,n2,c2⟩:=qz (f:=fun x st=>match iz t x (ko ρ caps++[none]) with
         | none=>.bad
         | some ρ1=>(xIf Φ ifs ρ1 st).bind fun b st2=>if b then (xE Φ elt ρ1 st2).bind fun y st3=>.ok (some y) st3 else .ok none st2) (g:=gf) (fun u x st' h' o' g px hgx hil=>by
           subst hgf
           dsimp only at hgx
           cases z:aw t x (dB τ caps++[none]) with
           | none=>rw [z] at hgx; cases hgx
           | some τ1=>
             rw [z] at hgx
             simp only [Ou.bN] at hgx
             obtain ⟨b,hb,hgx⟩:=hgx
             obtain ⟨ρ1,f1,w1⟩:=uV (wc.gr g) px z
             obtain ⟨b',st3,h3,f3,g3,hbb⟩:=(gIf HP ifs w1 g.wf fun _ _ z=>nomatch z).inv hb
             have hbb:b'=b:=hbb
             subst hbb
             cases b' with
             | false=>
               simp only [Bool.false_eq_true,if_false] at hgx
               cases hgx
               exact ⟨none,st3,h3,by simp only [f1,f3,Rs.aa]; rfl,g3,trivial⟩
             | true=>
               simp only [if_true,Ou.bN] at hgx
               obtain ⟨y,hy',hgx⟩:=hgx
               cases hgx
               have hyl:=hil y rfl
               cases y with
               | lst zs=>
                 obtain ⟨v,st4,h4,f4,g4,fn⟩:=gN1 HP elt (w1.gr g3) g3.wf (fun _ _ z=>nomatch z) hfe zs hy'
                 refine ⟨some v,st4,h4,by simp only [f1,f3,f4,Rs.aa,if_true],g3.trans g4,fn.1,?_⟩
                 obtain ⟨_,l,cs,rfl,en,nl⟩:=fn
                 obtain ⟨a1,_,a3⟩:=en.one rfl
                 exact ⟨l,rfl,Nat.le_trans g3.pre.length_le (nl l (List.mem_cons_self ..)),en.hl,a1,a3⟩
               | _=>cases hyl) (xs.length + 1) 0 st1 hh1 ys (.refl g1.wf) hq.2 (Nat.zero_le _) (Nat.zero_add _) (by rw [List.drop_zero]; exact hz) ha
       obtain ⟨h3,g3,f3⟩:=AV (st0:=st1) g2.wf r2 n2 g2.pre.length_le c2
       refine ⟨_,_,h3,?_,(g1.trans g2).trans g3,g1.frn f3⟩
       simp only [xE,e1,Rs.aa]
       rw [hq.2.len,if_pos hl]
       exact congrArg (fun z:Rs (List U)=>(z.bind fun ys st2=>new st2 ys).noX) e2
   · cases h2
 | call f es=>
   simp only [yE,Ou.bN] at hy
   obtain ⟨xs',h1,h2⟩:=hy
   obtain ⟨xs,st1,hh1,e1,g1,u,st2,hh2,e2,g2,f2⟩:∃ xs st1 hh1,xEs Φ es ρ st=.ok xs st1∧Gr h st hh1 st1∧∃ u st2 hh2,Φ f xs st1=.ok u st2∧Gr hh1 st1 hh2 st2∧FrR (μ f).lv st1 hh2 st2 u (.lst ds):=by
     cases hs:(μ f).sc with
     | false=>
       obtain ⟨xs,st1,hh1,e1,g1,hx⟩:=(gEs HP es 0 w wf fun i lv hi=>(by simpa only [gts,hs,Bool.false_eq_true,if_false] using hg i lv hi)).inv h1
       obtain ⟨u,st2,hh2,e2,g2,f2⟩:=((HP f).2 hh1 st1 xs xs' g1.wf hx).inv h2
       exact ⟨xs,st1,hh1,e1,g1,u,st2,hh2,e2,g2,f2⟩
     | true=>
       obtain ⟨xs,st1,hh1,e1,g1,hx⟩:=(gEs HP es 2 w wf fun i lv hi=>(by simpa only [gts,hs,if_true] using hg i lv hi)).inv h1
       obtain ⟨u,st2,hh2,e2,g2,f2⟩:=((HP f).Dn hs g1.wf hx).inv h2
       exact ⟨xs,st1,hh1,e1,g1,u,st2,hh2,e2,g2,f2⟩
   have hf:2≤(μ f).lv:=hf
   have fn:=f2.n (by omega) rfl
   have hE:xE Φ (.call f es) ρ st=.ok u st2:=by simp only [xE,e1,Rs.aa,e2]
   have lv2:(μ f).lv=2:=by
     obtain ⟨_,l,cs,_,e,_⟩:=fn
     exact (e.two (by omega)).1
   rw [lv2] at fn
   exact ⟨u,st2,hh2,hE,g1.trans g2,g1.frn fn⟩
 | op o a c=>cases o <;> simp [cD] at hf
 | bi o es=>cases o <;> simp [cD] at hf
 | _=>simp [cD] at hf
end
end Sv
namespace Sv
open PySem PySem.Spec L2
open Ev (D aZ bp ai)
structure En where
 i:Nat
 l:Nat
 lv:Nat
 cs:List Nat
noncomputable def En.ft (e:En):List Nat:=e.l :: e.cs
noncomputable def foot (F:List En):List Nat:=F.flatMap En.ft
noncomputable def bB (F:List En):Own:=F.map fun e=>(e.i,e.lv)
structure WS (P:Nat→Prop) (h0:Hd) (n0:Nat) (H:Hd) (st:Sto) (ρ:Env) (τ:aC) (F:List En):Prop where
 len:ρ.length=τ.length
 val:∀ (i:Nat) d,τ[i]?=some (some d)→∃ u,ρ[i]?=some (some u)∧Rep st u d∧((∀ e ∈ F,e.i ≠ i)→Av H st.length u)
 wf:Wf H st
 ent:∀ e ∈ F,ρ[e.i]?=some (some (.loc e.l))∧Ent H st e.l e.cs e.lv∧∀ k ∈ e.ft,¬ P k
 nd:(foot F).Nodup
 nv:(F.map (·.i)).Nodup
 bh:∀ k,h0.h k→H.h k∧P k
 bg:∀ k,h0.g k→H.g k
 oh:∀ k,H.h k→h0.h k∨k ∈ foot F∨n0≤k
 og:∀ k,H.g k→h0.g k∨k ∈ foot F∨n0≤k
 pl:∀ k,P k→k < n0
 nl:n0≤st.length
structure Stp (P:Nat→Prop) (H:Hd) (st:Sto) (H':Hd) (st':Sto):Prop where
 len:st.length≤st'.length
 lo:∀ k,P k→st'[k]?=st[k]?
 keep:∀ (k:Nat) c,¬ H.h k→st[k]?=some c→st'[k]?=some c
 hid:∀ k,k < st.length→H'.h k→H.h k
 gid:∀ k,k < st.length→H'.g k→H.g k
theorem Stp.refl {P:Nat→Prop} {H:Hd} {st:Sto}:Stp P H st H st:=⟨Nat.le_refl _,fun _ _=>rfl,fun _ _ _ h=>h,fun _ _ h=>h,fun _ _ h=>h⟩
theorem Stp.trans {P:Nat→Prop} {H H1 H2:Hd} {st st1 st2:Sto} (x:Stp P H st H1 st1) (y:Stp P H1 st1 H2 st2):Stp P H st H2 st2:=
 ⟨Nat.le_trans x.len y.len,fun k hk=>(y.lo k hk).trans (x.lo k hk),fun k c hn e=>y.keep k c (fun z=>hn (x.hid k (List.getElem?_eq_some_iff.mp e).1 z)) (x.keep k c hn e),
   fun k hk z=>x.hid k hk (y.hid k (Nat.lt_of_lt_of_le hk x.len) z),fun k hk z=>x.gid k hk (y.gid k (Nat.lt_of_lt_of_le hk x.len) z)⟩
structure Fin (P:Nat→Prop) (h0:Hd) (n0:Nat) (st:Sto) (H':Hd) (st':Sto):Prop where
 len:st.length≤st'.length
 lo:∀ k,P k→st'[k]?=st[k]?
 wf:Wf H' st'
 hm:∀ k,h0.h k→H'.h k
 gm:∀ k,h0.g k→H'.g k
 hn:∀ k,k < n0→H'.h k→h0.h k
 gn:∀ k,k < n0→H'.g k→h0.g k
theorem bZ {F:List En} {k:Nat}:k ∈ foot F ↔ ∃ e ∈ F,k ∈ e.ft:=by unfold foot; exact List.mem_flatMap
theorem ij (e:En) (F:List En):foot (e :: F)=e.ft++foot F:=rfl
theorem iU (F G:List En):foot (F++G)=foot F++foot G:=by unfold foot; exact List.flatMap_append
theorem mem_mid {α:Type} {F1 F2:List α} {e x:α} (h:x ∈ F1++F2):x ∈ F1++e :: F2:=by
 rcases List.mem_append.mp h with h | h
 · exact List.mem_append_left _ h
 · exact List.mem_append_right _ (List.mem_cons_of_mem _ h)
theorem df {α:Type} {F1 F2:List α} {e x:α} (h:x ∈ F1++e :: F2):x=e∨x ∈ F1++F2:=by
 rcases List.mem_append.mp h with h | h
 · exact .inr (List.mem_append_left _ h)
 · rcases List.mem_cons.mp h with h | h
   · exact .inl h
   · exact .inr (List.mem_append_right _ h)
theorem jb {F1 F2:List En} {e e':En} (nd:(foot (F1++e :: F2)).Nodup) (h:e' ∈ F1++F2) {k:Nat} (h1:k ∈ e.ft) (h2:k ∈ e'.ft):False:=by
 rw [iU,ij] at nd
 obtain ⟨_,n2,n3⟩:=List.nodup_append.mp nd
 obtain ⟨_,_,n6⟩:=List.nodup_append.mp n2
 rcases List.mem_append.mp h with h | h
 · exact n3 k (bZ.mpr ⟨e',h,h2⟩) k (List.mem_append_left _ h1) rfl
 · exact n6 k h1 k (bZ.mpr ⟨e',h,h2⟩) rfl
theorem CU {F1 F2:List En} {e:En} (nd:(foot (F1++e :: F2)).Nodup):(foot (F1++F2)).Nodup:=by
 rw [iU,ij] at nd
 rw [iU]
 obtain ⟨n1,n2,n3⟩:=List.nodup_append.mp nd
 obtain ⟨_,n5,_⟩:=List.nodup_append.mp n2
 exact List.nodup_append.mpr ⟨n1,n5,fun a ha b hb=>n3 a ha b (List.mem_append_right _ hb)⟩
theorem uR {F1 F2:List En} {e:En} (nv:((F1++e :: F2).map (·.i)).Nodup):((F1++F2).map (·.i)).Nodup∧∀ e' ∈ F1++F2,e'.i ≠ e.i:=by
 rw [List.map_append,List.map_cons] at nv
 obtain ⟨n1,n2,n3⟩:=List.nodup_append.mp nv
 obtain ⟨n4,n5⟩:=List.nodup_cons.mp n2
 refine ⟨?_,fun e' he z=>?_⟩
 · rw [List.map_append]
   exact List.nodup_append.mpr ⟨n1,n5,fun a ha b hb=>n3 a ha b (List.mem_cons_of_mem _ hb)⟩
 · rcases List.mem_append.mp he with h | h
   · exact n3 _ (List.mem_map_of_mem h) _ (List.mem_cons_self ..) z
   · exact n4 (z ▸ List.mem_map_of_mem (f:=(·.i)) h)
theorem Ent.gr {h h':Hd} {st st':Sto} {l:Nat} {cs:List Nat} {lv:Nat} (e:Ent h st l cs lv) (g:Gr h st h' st'):Ent h' st' l cs lv:=by
 refine ⟨g.hm l e.hl,fun z=>?_,fun z=>?_,e.nd⟩
 · obtain ⟨a,b,us,c⟩:=e.one z
   exact ⟨fun q=>a (g.gn l (List.getElem?_eq_some_iff.mp c).1 q),b,us,gL g.pre _ _ c⟩
 · obtain ⟨a,b,c,d⟩:=e.two z
   exact ⟨a,g.gm l b,gL g.pre _ _ c,fun k hk=>g.Lu (d k hk)⟩
theorem Ent.hd {h h':Hd} {st st':Sto} {l:Nat} {cs:List Nat} {lv:Nat} (e:Ent h st l cs lv) (eh:∀ k ∈ l :: cs,(h.h k→h'.h k)∧(h.g k→h'.g k)∧(h'.g k→h.g k)∧st'[k]?=st[k]?):Ent h' st' l cs lv:=by
 have e0:=eh l (List.mem_cons_self ..)
 refine ⟨e0.1 e.hl,fun z=>?_,fun z=>?_,e.nd⟩
 · obtain ⟨a,b,us,c⟩:=e.one z
   exact ⟨fun q=>a (e0.2.2.1 q),b,us,e0.2.2.2.trans c⟩
 · obtain ⟨a,b,c,d⟩:=e.two z
   refine ⟨a,e0.2.1 b,e0.2.2.2.trans c,fun k hk=>?_⟩
   obtain ⟨d1,d2,ws,d3⟩:=d k hk
   have ek:=eh k (List.mem_cons_of_mem _ hk)
   exact ⟨ek.1 d1,fun q=>d2 (ek.2.2.1 q),ws,ek.2.2.2.trans d3⟩
section
variable {P:Nat→Prop} {h0 H:Hd} {n0:Nat} {st:Sto} {ρ:Env} {τ:aC} {F F1 F2:List En}
theorem WS.we (w:WS P h0 n0 H st ρ τ F):WE H st ρ τ (bB F):=by
 refine ⟨w.len,fun i d e=>?_⟩
 obtain ⟨u,e1,r,a⟩:=w.val i d e
 refine ⟨u,e1,r,?_⟩
 by_cases hx:∃ en ∈ F,en.i=i
 · obtain ⟨en,hen,rfl⟩:=hx
   obtain ⟨e2,e3,_⟩:=w.ent en hen
   rw [e1] at e2
   have:u=.loc en.l:=by simpa using e2
   subst this
   refine .inr ⟨en.lv,List.mem_map.mpr ⟨en,hen,rfl⟩,?_⟩
   by_cases z:en.lv=1
   · obtain ⟨a1,_,us,a3⟩:=e3.one z
     exact .inr (.inl ⟨by omega,en.l,rfl,(List.getElem?_eq_some_iff.mp a3).1,a1⟩)
   · obtain ⟨a1,_,a3,a4⟩:=e3.two z
     refine .inr (.inr ⟨by omega,en.l,rfl,false,_,a3,fun v hv=>?_⟩)
     obtain ⟨c,hc,rfl⟩:=List.mem_map.mp hv
     exact ⟨c,rfl,e3.lt c (List.mem_cons_of_mem _ hc),(a4 c hc).2.1⟩
 · exact .inl (a fun e he z=>hx ⟨e,he,z⟩)
theorem WS.gr (w:WS P h0 n0 H st ρ τ F) {H':Hd} {st':Sto} (g:Gr H st H' st'):WS P h0 n0 H' st' ρ τ F∧Stp P H st H' st':=by
 have out:∀ k,H'.h k→H.h k∨n0≤k:=fun k z=>by
   rcases Nat.lt_or_ge k st.length with q | q
   · exact .inl (g.hn k q z)
   · exact .inr (Nat.le_trans w.nl q)
 have outg:∀ k,H'.g k→H.g k∨n0≤k:=fun k z=>by
   rcases Nat.lt_or_ge k st.length with q | q
   · exact .inl (g.gn k q z)
   · exact .inr (Nat.le_trans w.nl q)
 refine ⟨⟨w.len,fun i d e=>let ⟨u,e1,r,a⟩:=w.val i d e; ⟨u,e1,r.ext g.pre,fun z=>g.av (a z)⟩,g.wf,fun e he=>let ⟨a,b,c⟩:=w.ent e he; ⟨a,b.gr g,c⟩,w.nd,w.nv,fun k z=>⟨g.hm k (w.bh k z).1,(w.bh k z).2⟩,fun k z=>g.gm k (w.bg k z),
   fun k z=>(out k z).elim (w.oh k) fun q=>.inr (.inr q),fun k z=>(outg k z).elim (w.og k) fun q=>.inr (.inr q),w.pl,Nat.le_trans w.nl g.pre.length_le⟩,
   ⟨g.pre.length_le,fun k hk=>?_,fun k c _ e=>gL g.pre k c e,g.hn,g.gn⟩⟩
 obtain ⟨r,rfl⟩:=g.pre
 exact List.getElem?_append_left (Nat.lt_of_lt_of_le (w.pl k hk) w.nl)
theorem WS.drop {e:En} (w:WS P h0 n0 H st ρ τ (F1++e :: F2)):∃ H',WS P h0 n0 H' st ρ τ (F1++F2)∧Stp P H st H' st:=by
 have he:e ∈ F1++e :: F2:=List.mem_append_right _ (List.mem_cons_self ..)
 obtain ⟨a1,a2,a3⟩:=w.ent e he
 obtain ⟨w1,av1⟩:=w.wf.less a2
 obtain ⟨nv1,nv2⟩:=uR w.nv
 have oR:∀ k,P k→k ∉ e.l :: e.cs:=fun k hk z=>a3 k z hk
 refine ⟨H.less fun k=>k ∈ e.l :: e.cs,⟨w.len,fun i d q=>?_,w1,fun e' he'=>?_,CU w.nd,nv1,fun k z=>⟨⟨(w.bh k z).1,oR k (w.bh k z).2⟩,(w.bh k z).2⟩,fun k z=>⟨w.bg k z,oR k (w.bh k (h0.sub k z)).2⟩,fun k z=>?_,fun k z=>?_,w.pl,w.nl⟩,⟨Nat.le_refl _,fun _ _=>rfl,fun _ _ _ h=>h,fun k _ z=>z.1,fun k _ z=>z.1⟩⟩
 · obtain ⟨u,e1,r,a⟩:=w.val i d q
   refine ⟨u,e1,r,fun hn=>?_⟩
   by_cases z:e.i=i
   · subst z
     rw [a1] at e1
     have:u=.loc e.l:=by simpa using e1.symm
     subst this
     exact av1
   · refine (a fun e' he'=>?_).less
     rcases df he' with rfl | he'
     · exact z
     · exact hn e' he'
 · obtain ⟨b1,b2,b3⟩:=w.ent e' (mem_mid he')
   have ap:∀ k ∈ e'.l :: e'.cs,k ∉ e.l :: e.cs:=fun k hk z=>jb w.nd he' z hk
   exact ⟨b1,b2.hd fun k hk=>⟨fun z=>⟨z,ap k hk⟩,fun z=>⟨z,ap k hk⟩,fun z=>z.1,rfl⟩,b3⟩
 · rcases w.oh k z.1 with q | q | q
   · exact .inl q
   · obtain ⟨e',he',hk⟩:=bZ.mp q
     rcases df he' with rfl | he'
     · exact absurd hk z.2
     · exact .inr (.inl (bZ.mpr ⟨e',he',hk⟩))
   · exact .inr (.inr q)
 · rcases w.og k z.1 with q | q | q
   · exact .inl q
   · obtain ⟨e',he',hk⟩:=bZ.mp q
     rcases df he' with rfl | he'
     · exact absurd hk z.2
     · exact .inr (.inl (bZ.mpr ⟨e',he',hk⟩))
   · exact .inr (.inr q)
theorem WS.down {i l:Nat} {cs:List Nat} (w:WS P h0 n0 H st ρ τ (F1++⟨i,l,2,cs⟩ :: F2)):∃ H',WS P h0 n0 H' st ρ τ (F1++⟨i,l,1,[]⟩ :: F2)∧Stp P H st H' st:=by
 have he:(⟨i,l,2,cs⟩:En) ∈ F1++⟨i,l,2,cs⟩ :: F2:=List.mem_append_right _ (List.mem_cons_self ..)
 obtain ⟨a1,a2,a3⟩:=w.ent _ he
 obtain ⟨H',b1,b2,b3,b4,b5,b6⟩:=Ent.down w.wf a2
 obtain ⟨nv1,nv2⟩:=uR w.nv
 have oR:∀ k,P k→k ∉ l :: cs:=fun k hk z=>a3 k z hk
 have cases':∀ {e'},e' ∈ F1++(⟨i,l,1,[]⟩:En) :: F2→e'=⟨i,l,1,[]⟩∨e' ∈ F1++F2:=fun h=>df h
 have nd':(foot (F1++⟨i,l,1,[]⟩ :: F2)).Nodup:=by
   have nd:=w.nd
   rw [iU,ij] at nd ⊢
   obtain ⟨n1,n2,n3⟩:=List.nodup_append.mp nd
   obtain ⟨n4,n5,n6⟩:=List.nodup_append.mp n2
   refine List.nodup_append.mpr ⟨n1,List.nodup_append.mpr ⟨by simp [En.ft],n5,fun a ha b hb=>n6 a ?_ b hb⟩,fun a ha b hb=>n3 a ha b ?_⟩
   · have:a=l:=by simpa [En.ft] using ha
     subst this; exact List.mem_cons_self ..
   · rcases List.mem_append.mp hb with hb | hb
     · have:b=l:=by simpa [En.ft] using hb
       subst this; exact List.mem_append_left _ (List.mem_cons_self ..)
     · exact List.mem_append_right _ hb
 have nvv:((F1++(⟨i,l,1,[]⟩:En) :: F2).map (·.i)).Nodup:=by
   have:=w.nv
   rw [List.map_append,List.map_cons] at this ⊢
   exact this
 refine ⟨H',⟨w.len,fun j d q=>?_,b5,fun e' he'=>?_,nd',nvv,fun k z=>⟨(b3 k (oR k (w.bh k z).2)).1 (w.bh k z).1,(w.bh k z).2⟩,fun k z=>(b3 k (oR k (w.bh k (h0.sub k z)).2)).2 (w.bg k z),fun k z=>?_,fun k z=>?_,w.pl,w.nl⟩,⟨Nat.le_refl _,fun _ _=>rfl,fun _ _ _ h=>h,fun k _ z=>b1 k z,fun k _ z=>b2 k z⟩⟩
 · obtain ⟨u,e1,r,a⟩:=w.val j d q
   refine ⟨u,e1,r,fun hn=>(a fun e' he'=>?_).imp fun k _ z=>b1 k z⟩
   rcases df he' with rfl | he'
   · exact hn ⟨i,l,1,[]⟩ (List.mem_append_right _ (List.mem_cons_self ..))
   · exact hn e' (mem_mid he')
 · rcases cases' he' with rfl | he'
   · exact ⟨a1,b6,fun k hk=>a3 k (by rw [En.ft,List.mem_singleton] at hk; subst hk; exact List.mem_cons_self ..)⟩
   · obtain ⟨c1,c2,c3⟩:=w.ent e' (mem_mid he')
     have ap:∀ k ∈ e'.l :: e'.cs,k ∉ l :: cs:=fun k hk z=>jb w.nd he' z hk
     exact ⟨c1,c2.hd fun k hk=>⟨(b3 k (ap k hk)).1,(b3 k (ap k hk)).2,b2 k,rfl⟩,c3⟩
 · rcases w.oh k (b1 k z) with q | q | q
   · exact .inl q
   · obtain ⟨e',he',hk⟩:=bZ.mp q
     rcases df he' with rfl | he'
     · rcases List.mem_cons.mp hk with rfl | hk
       · exact .inr (.inl (bZ.mpr ⟨⟨i,k,1,[]⟩,List.mem_append_right _ (List.mem_cons_self ..),List.mem_cons_self ..⟩))
       · exact absurd z (b4 k hk)
     · exact .inr (.inl (bZ.mpr ⟨e',mem_mid he',hk⟩))
   · exact .inr (.inr q)
 · rcases w.og k (b2 k z) with q | q | q
   · exact .inl q
   · obtain ⟨e',he',hk⟩:=bZ.mp q
     rcases df he' with rfl | he'
     · rcases List.mem_cons.mp hk with rfl | hk
       · exact .inr (.inl (bZ.mpr ⟨⟨i,k,1,[]⟩,List.mem_append_right _ (List.mem_cons_self ..),List.mem_cons_self ..⟩))
       · exact absurd (H'.sub k z) (b4 k hk)
     · exact .inr (.inl (bZ.mpr ⟨e',mem_mid he',hk⟩))
   · exact .inr (.inr q)
theorem WS.dns (g:Nat→Nat→Bool):∀ (F2 F1:List En) {H:Hd},WS P h0 n0 H st ρ τ (F1++F2)→∃ H' F',bB F'=dn g (bB F2)∧WS P h0 n0 H' st ρ τ (F1++F')∧Stp P H st H' st
 | [],F1,H,w=>⟨H,[],rfl,w,.refl⟩
 | e :: F2,F1,H,w=>by
   have step:∀ {e'},WS P h0 n0 H st ρ τ (F1++e' :: F2)→∀ {H0},Stp P H0 st H st→∃ H' F',bB F'=(e'.i,e'.lv) :: dn g (bB F2)∧WS P h0 n0 H' st ρ τ (F1++F')∧Stp P H0 st H' st:=fun {e'} w {H0} s0=>by
     rw [show F1++e' :: F2=(F1++[e'])++F2 by simp] at w
     obtain ⟨H',F',e1,w1,s1⟩:=WS.dns g F2 (F1++[e']) w
     exact ⟨H',e' :: F',by rw [← e1]; rfl,by rw [show F1++e' :: F'=(F1++[e'])++F' by simp]; exact w1,s0.trans s1⟩
   show ∃ H' F',bB F'=Sv.dn g ((e.i,e.lv) :: bB F2)∧_
   rw [Sv.dn]
   split
   · split
     · rename_i hz
       obtain ⟨i,l,lv,cs⟩:=e
       obtain ⟨hz,_⟩:=hz
       dsimp only at hz
       subst hz
       obtain ⟨H1,w1,s1⟩:=WS.down w
       have:∀ {e'},WS P h0 n0 H1 st ρ τ (F1++e' :: F2)→∃ H' F',bB F'=(e'.i,e'.lv) :: Sv.dn g (bB F2)∧WS P h0 n0 H' st ρ τ (F1++F')∧Stp P H st H' st:=fun {e'} w=>by
         rw [show F1++e' :: F2=(F1++[e'])++F2 by simp] at w
         obtain ⟨H',F',e1,w1,s2⟩:=WS.dns g F2 (F1++[e']) w
         exact ⟨H',e' :: F',by rw [← e1]; rfl,by rw [show F1++e' :: F'=(F1++[e'])++F' by simp]; exact w1,s1.trans s2⟩
       exact this w1
     · obtain ⟨H1,w1,s1⟩:=WS.drop w
       obtain ⟨H',F',e1,w2,s2⟩:=WS.dns g F2 F1 w1
       exact ⟨H',F',e1,w2,s1.trans s2⟩
   · exact step w .refl
theorem WS.dn0 (w:WS P h0 n0 H st ρ τ F) (g:Nat→Nat→Bool):∃ H' F',bB F'=Sv.dn g (bB F)∧WS P h0 n0 H' st ρ τ F'∧Stp P H st H' st:=WS.dns g F [] w
theorem BY:∀ (own:Own),Sv.dn (fun _ _=>true) own=[]
 | []=>rfl
 | (i,lv) :: r=>by rw [Sv.dn]; simp only [if_true,Bool.true_eq_false,and_false,if_false]; exact BY r
theorem BZ {F:List En} (h:bB F=[]):F=[]:=by cases F; rfl; cases h
theorem WS.fin (w:WS P h0 n0 H st ρ τ F):∃ H',WS P h0 n0 H' st ρ τ []∧Stp P H st H' st:=by
 obtain ⟨H',F',e,w1,s1⟩:=w.dn0 fun _ _=>true
 rw [BY] at e
 have:=BZ e
 subst this
 exact ⟨H',w1,s1⟩
theorem WS.out (w:WS P h0 n0 H st ρ τ []):Fin P h0 n0 st H st:=
 ⟨Nat.le_refl _,fun _ _=>rfl,w.wf,fun k z=>(w.bh k z).1,w.bg,fun k hk z=>(w.oh k z).elim id fun q=>q.elim (fun q=>nomatch q) fun q=>absurd hk (Nat.not_lt.mpr q),fun k hk z=>(w.og k z).elim id fun q=>q.elim (fun q=>nomatch q) fun q=>absurd hk (Nat.not_lt.mpr q)⟩
theorem Ac {g:Nat→Nat→Bool}:∀ {own:Own} {i lv:Nat},(i,lv) ∈ Sv.dn g own→g i lv=false
 | [],_,_,h=>by cases h
 | (j,k) :: r,i,lv,h=>by
   rw [Sv.dn] at h
   split at h
   · split at h
     · rename_i hz
       rcases List.mem_cons.mp h with h | h
       · cases h; exact hz.2
       · exact Ac h
     · exact Ac h
   · rename_i hz
     rcases List.mem_cons.mp h with h | h
     · cases h; exact Bool.eq_false_iff.mpr hz
     · exact Ac h
end
end Sv
namespace Sv
open PySem PySem.Spec L2
open Ev (D aZ bp ai)
theorem get_set {α:Type} {xs:List (Option α)} {i j:Nat} {x y:α} (h:(xs.set i (some x))[j]?=some (some y)):(i=j∧y=x)∨(i ≠ j∧xs[j]?=some (some y)):=by
 by_cases z:i=j
 · subst z
   by_cases hl:i < xs.length
   · rw [List.getElem?_set_self hl] at h
     cases h
     exact .inl ⟨rfl,rfl⟩
   · rw [List.getElem?_eq_none (by rw [List.length_set]; omega)] at h; cases h
 · rw [List.getElem?_set_ne z] at h
   exact .inr ⟨z,h⟩
theorem get_none {α:Type} {xs:List (Option α)} {i j:Nat} {y:α} (h:(xs.set i none)[j]?=some (some y)):i ≠ j∧xs[j]?=some (some y):=by
 by_cases z:i=j
 · subst z
   by_cases hl:i < xs.length
   · rw [List.getElem?_set_self hl] at h; cases h
   · rw [List.getElem?_eq_none (by rw [List.length_set]; omega)] at h; cases h
 · rw [List.getElem?_set_ne z] at h
   exact ⟨z,h⟩
theorem nin {X:List Nat} {m k:Nat} (hm:m ∈ X) (hk:k ∉ X):m ≠ k:=fun z=>by subst z; exact hk hm
theorem nip {P:Nat→Prop} {m k:Nat} (hm:¬ P m) (hk:P k):m ≠ k:=fun z=>by subst z; exact hm hk
theorem aR.mk {st:Sto}:∀ {us:List U} {ds:List T},us.length=ds.length→(∀ (j:Nat) u d,us[j]?=some u→ds[j]?=some d→Rep st u d)→aR st us ds
 | [],[],_,_=>.nil
 | u :: us,d :: ds,hl,h=>.cons (h 0 u d rfl rfl) (aR.mk (by simpa using hl) fun j u' d' e1 e2=>h (j + 1) u' d' (by simpa using e1) (by simpa using e2))
 | [],_ :: _,hl,_=>by simp at hl
 | _ :: _,[],hl,_=>by simp at hl
section
variable {P:Nat→Prop} {h0 H:Hd} {n0:Nat} {st:Sto} {ρ:Env} {τ:aC} {F F1 F2:List En}
theorem WS.set (w:WS P h0 n0 H st ρ τ F) {i:Nat} {u:U} {d:T} (hi:∀ e ∈ F,e.i ≠ i) (p:PX 0 H st u d):WS P h0 n0 H st (ρ.set i (some u)) (τ.set i (some d)) F:=by
 refine ⟨by rw [List.length_set,List.length_set]; exact w.len,fun j e q=>?_,w.wf,fun e he=>?_,w.nd,w.nv,w.bh,w.bg,w.oh,w.og,w.pl,w.nl⟩
 · rcases get_set q with ⟨rfl,rfl⟩ | ⟨z,q⟩
   · refine ⟨u,List.getElem?_set_self ?_,p.1,fun _=>p.av⟩
     rw [w.len]
     have:=(List.getElem?_eq_some_iff.mp q).1
     rwa [List.length_set] at this
   · obtain ⟨v,e1,r⟩:=w.val j e q
     exact ⟨v,by rw [List.getElem?_set_ne z]; exact e1,r⟩
 · obtain ⟨a,b⟩:=w.ent e he
   exact ⟨by rw [List.getElem?_set_ne (Ne.symm (hi e he))]; exact a,b⟩
theorem WS.lZ:∀ {is:List Nat} {us:List U} {ds:List T} {ρ:Env} {τ τ':aC},WS P h0 n0 H st ρ τ F→(∀ i ∈ is,∀ e ∈ F,e.i ≠ i)→PXs 0 H st us ds→mr is ds τ=some τ'→∃ ρ',lZ is us ρ=some ρ'∧WS P h0 n0 H st ρ' τ' F
 | [],_,_,ρ,τ,τ',w,_,⟨.nil,_⟩,e=>by cases e; exact ⟨ρ,rfl,w⟩
 | [],_,_,ρ,τ,τ',w,_,⟨.cons _ _,_⟩,e=>by cases e
 | i :: is,_,_,ρ,τ,τ',w,_,⟨.nil,_⟩,e=>by cases e
 | i :: is,_,_,ρ,τ,τ',w,hi,⟨.cons (u:=u) (d:=d) (us:=us) r rs,a⟩,e=>by
   rw [mr] at e
   rw [Sv.lZ]
   exact WS.lZ (w.set (hi i (List.mem_cons_self ..)) ⟨r,a u (List.mem_cons_self ..)⟩) (fun j hj=>hi j (List.mem_cons_of_mem _ hj)) ⟨rs,fun v hv=>a v (List.mem_cons_of_mem _ hv)⟩ e
theorem WS.iz {t:Tg} {u:U} {d:T} {τ':aC} (w:WS P h0 n0 H st ρ τ F) (hi:∀ i ∈ tgN t,∀ e ∈ F,e.i ≠ i) (p:PX 0 H st u d) (e:aw t d τ=some τ'):∃ ρ',iz t u ρ=some ρ'∧WS P h0 n0 H st ρ' τ' F:=by
 cases t with
 | nm i=>
   cases e
   exact ⟨_,rfl,w.set (hi i (List.mem_singleton_self i)) p⟩
 | tp is=>
   cases d with
   | tup ds=>
     obtain ⟨us,rfl,p'⟩:=iR (k':=0) p
     exact w.lZ hi p' e
   | _=>cases e
theorem uB {t:Tg} {own:Own} (h:bB F=Sv.dn (frg t) own):∀ i ∈ tgN t,∀ e ∈ F,e.i ≠ i:=fun i hi e he z=>by
 have:(e.i,e.lv) ∈ bB F:=List.mem_map.mpr ⟨e,he,rfl⟩
 rw [h] at this
 have:=Ac this
 unfold frg at this
 rw [z,List.contains_iff_mem.mpr hi] at this
 cases this
theorem WS.take (w:WS P h0 n0 H st ρ τ F) {i lv:Nat} {u:U} {d:T} {H':Hd} {st':Sto} (hi:∀ e ∈ F,e.i ≠ i) (hl:i < τ.length) (g:Gr H st H' st') (f:FrN lv st H' st' u d) :
   ∃ l cs,u=.loc l∧WS P h0 n0 H' st' (ρ.set i (some u)) (τ.set i (some d)) (⟨i,l,lv,cs⟩ :: F)∧Stp P H st H' st':=by
 obtain ⟨w1,s1⟩:=w.gr g
 obtain ⟨r,l,cs,rfl,en,nl⟩:=f
 have hρ:i < ρ.length:=by rw [w.len]; exact hl
 refine ⟨l,cs,rfl,⟨by rw [List.length_set,List.length_set]; exact w.len,fun j e q=>?_,w1.wf,fun e he=>?_,?_,?_,w1.bh,w1.bg,fun k z=>(w1.oh k z).imp id (Or.imp (fun q=>?_) id),fun k z=>(w1.og k z).imp id (Or.imp (fun q=>?_) id),w1.pl,w1.nl⟩,s1⟩
 · rcases get_set q with ⟨rfl,rfl⟩ | ⟨z,q⟩
   · exact ⟨_,List.getElem?_set_self hρ,r,fun h=>absurd rfl (h ⟨i,l,lv,cs⟩ (List.mem_cons_self ..))⟩
   · obtain ⟨v,e1,r1,a1⟩:=w1.val j e q
     exact ⟨v,by rw [List.getElem?_set_ne z]; exact e1,r1,fun h=>a1 fun e he=>h e (List.mem_cons_of_mem _ he)⟩
 · rcases List.mem_cons.mp he with rfl | he
   · exact ⟨List.getElem?_set_self hρ,en,fun k hk z=>absurd (Nat.lt_of_lt_of_le (w.pl k z) w.nl) (Nat.not_lt.mpr (nl k hk))⟩
   · obtain ⟨a,b⟩:=w1.ent e he
     exact ⟨by rw [List.getElem?_set_ne (Ne.symm (hi e he))]; exact a,b⟩
 · rw [ij]
   refine List.nodup_append.mpr ⟨en.nd,w.nd,fun a ha b hb z=>?_⟩
   subst z
   obtain ⟨e,he,hk⟩:=bZ.mp hb
   exact absurd ((w.ent e he).2.1.lt a hk) (Nat.not_lt.mpr (nl a ha))
 · rw [List.map_cons]
   refine List.nodup_cons.mpr ⟨fun z=>?_,w.nv⟩
   obtain ⟨e,he,z⟩:=List.mem_map.mp z
   exact hi e he z
 · rw [ij]; exact List.mem_append_right _ q
 · rw [ij]; exact List.mem_append_right _ q
noncomputable def zG (H:Hd) (F:List En) (e:En):Hd:=⟨fun k=>k ∈ e.ft∨(H.g k∧∀ e' ∈ F,e'.l ≠ k),fun k=>(k ∈ e.ft∧H.g k)∨(H.g k∧∀ e' ∈ F,e'.l ≠ k),fun k z=>z.imp (·.1) id⟩
theorem WS.zG {e:En} (w:WS P h0 n0 H st ρ τ (F1++e :: F2)):Wf (zG H (F1++F2) e) st:=by
 have he:e ∈ F1++e :: F2:=List.mem_append_right _ (List.mem_cons_self ..)
 obtain ⟨a1,a2,a3⟩:=w.ent e he
 refine ⟨fun k fz us hk q u hu=>?_,fun k z=>z.elim (fun z=>a2.lt k z) fun z=>w.wf.lt k (H.sub k z.1)⟩
 by_cases hg:H.g k
 · have:∃ e' ∈ F1++F2,e'.l=k:=Classical.byContradiction fun z=>hk (.inr ⟨hg,fun e' he' z'=>z ⟨e',he',z'⟩⟩)
   obtain ⟨e',he',rfl⟩:=this
   obtain ⟨b1,b2,b3⟩:=w.ent e' (mem_mid he')
   have hz:e'.lv ≠ 1:=fun z=>(b2.one z).1 hg
   obtain ⟨_,_,c3,c4⟩:=b2.two hz
   rw [q] at c3
   cases c3
   obtain ⟨c,hc,rfl⟩:=List.mem_map.mp hu
   refine .loc (b2.lt c (List.mem_cons_of_mem _ hc)) fun z=>?_
   rcases z with z | z
   · exact jb w.nd he' z (List.mem_cons_of_mem _ hc)
   · exact (c4 c hc).2.1 z.1
 · refine (w.wf.av k fz us hg q u hu).imp fun l _ z=>?_
   rcases z with z | z
   · exact a2.hid l z
   · exact H.sub l z.1
theorem WS.mx {e:En} (w:WS P h0 n0 H st ρ τ (F1++e :: F2)) {st':Sto} (kp:∀ (k:Nat) c,k ∉ e.ft→st[k]?=some c→st'[k]?=some c) {i:Nat} {d:T} (hi:i ≠ e.i) (hd:τ[i]?=some (some d)) :
   ∃ u,ρ[i]?=some (some u)∧Rep st' u d∧((∀ e' ∈ F1++e :: F2,e'.i ≠ i)→Av H st.length u):=by
 obtain ⟨a1,a2,a3⟩:=w.ent e (List.mem_append_right _ (List.mem_cons_self ..))
 obtain ⟨u,e1,r,a⟩:=w.val i d hd
 refine ⟨u,e1,r.keep w.zG (fun k c hk q=>kp k c (fun z=>hk (.inl z)) q) fun k hk z=>?_,a⟩
 by_cases hx:∃ e' ∈ F1++F2,e'.i=i
 · obtain ⟨e',he',rfl⟩:=hx
   obtain ⟨b1,b2,b3⟩:=w.ent e' (mem_mid he')
   rw [e1] at b1
   have:u=.loc e'.l:=by simpa using b1
   subst this
   have:k=e'.l:=by simpa [locs] using hk
   subst this
   rcases z with z | z
   · exact jb w.nd he' z (List.mem_cons_self ..)
   · exact z.2 e' he' rfl
 · have av:=a fun e' he' q=>by
     rcases df he' with rfl | he'
     · exact hi q.symm
     · exact hx ⟨e',he',q⟩
   rcases z with z | z
   · exact (av k hk).2 (a2.hid k z)
   · exact (av k hk).2 (H.sub k z.1)
theorem WS.Cu {e:En} (w:WS P h0 n0 H st ρ τ (F1++e :: F2)) {st':Sto} (kp:∀ (k:Nat) c,k ∉ e.ft→st[k]?=some c→st'[k]?=some c) {us:List U} {ds:List T} (p:PXs 0 H st us ds):aR st' us ds:=by
 obtain ⟨a1,a2,a3⟩:=w.ent e (List.mem_append_right _ (List.mem_cons_self ..))
 refine p.1.keep w.zG (fun k c hk q=>kp k c (fun z=>hk (.inl z)) q) fun u hu k hk z=>?_
 have av:=(p.2 u hu).zero
 rcases z with z | z
 · exact (av k hk).2 (a2.hid k z)
 · exact (av k hk).2 (H.sub k z.1)
theorem WS.write {e:En} (w:WS P h0 n0 H st ρ τ (F1++e :: F2)) {m:Nat} {vs:List U} {d:T} (hm:m ∈ e.ft) (hv:∀ v ∈ vs,Av H st.length v) (hr:Rep (st.set m (false,vs)) (.loc e.l) d) (hE:Ent H (st.set m (false,vs)) e.l e.cs e.lv) :
   WS P h0 n0 H (st.set m (false,vs)) ρ (τ.set e.i (some d)) (F1++e :: F2)∧Stp P H st H (st.set m (false,vs)):=by
 have he:e ∈ F1++e :: F2:=List.mem_append_right _ (List.mem_cons_self ..)
 obtain ⟨a1,a2,a3⟩:=w.ent e he
 have hml:=a2.lt m hm
 have kp:∀ (k:Nat) c,k ∉ e.ft→st[k]?=some c→(st.set m (false,vs))[k]?=some c:=fun k c hk q=>by
   rw [List.getElem?_set_ne (nin hm hk)]; exact q
 refine ⟨⟨by rw [List.length_set]; exact w.len,fun i d' q=>?_,⟨fun k fz us hk q u hu=>?_,fun k z=>by rw [List.length_set]; exact w.wf.lt k z⟩,fun e' he'=>?_,w.nd,w.nv,w.bh,w.bg,w.oh,w.og,w.pl,by rw [List.length_set]; exact w.nl⟩,⟨by rw [List.length_set]; exact Nat.le_refl _,fun k hk=>List.getElem?_set_ne (nip (a3 m hm) hk),fun k c hn q=>?_,fun _ _ z=>z,fun _ _ z=>z⟩⟩
 · rcases get_set q with ⟨rfl,rfl⟩ | ⟨z,q⟩
   · exact ⟨_,a1,hr,fun h=>absurd rfl (h e he)⟩
   · obtain ⟨u,e1,r,a⟩:=w.mx kp (Ne.symm z) q
     exact ⟨u,e1,r,fun h=>by rw [List.length_set]; exact a h⟩
 · rw [List.length_set]
   by_cases z:k=m
   · subst z
     rw [List.getElem?_set_self hml] at q
     cases q
     exact hv u hu
   · rw [List.getElem?_set_ne (Ne.symm z)] at q
     exact w.wf.av k fz us hk q u hu
 · rcases df he' with rfl | he'
   · exact ⟨a1,hE,a3⟩
   · obtain ⟨b1,b2,b3⟩:=w.ent e' (mem_mid he')
     exact ⟨b1,b2.hd fun k hk=>⟨fun z=>z,fun z=>z,fun z=>z,List.getElem?_set_ne (fun z=>jb w.nd he' hm (by rw [z]; exact hk))⟩,b3⟩
 · exact kp k c (fun z=>hn (a2.hid k z)) q
theorem WS.Ka {i l:Nat} (w:WS P h0 n0 H st ρ τ (F1++⟨i,l,1,[]⟩ :: F2)) {vs:List U} {ds:List T} (p:PXs 0 H st vs ds) :
   WS P h0 n0 H (st.set l (false,vs)) ρ (τ.set i (some (.lst ds))) (F1++⟨i,l,1,[]⟩ :: F2)∧Stp P H st H (st.set l (false,vs)):=by
 obtain ⟨a1,a2,a3⟩:=w.ent _ (List.mem_append_right _ (List.mem_cons_self ..))
 have hl:l < st.length:=a2.lt l (List.mem_cons_self ..)
 have kp:∀ (k:Nat) c,k ∉ (⟨i,l,1,[]⟩:En).ft→st[k]?=some c→(st.set l (false,vs))[k]?=some c:=fun k c hk q=>by
   rw [List.getElem?_set_ne (nin (List.mem_cons_self ..) hk)]; exact q
 refine WS.write (e:=⟨i,l,1,[]⟩) w (List.mem_cons_self ..) (fun v hv=>(p.2 v hv).zero) (.loc (List.getElem?_set_self hl) (w.Cu kp p)) ⟨a2.hl,fun z=>⟨(a2.one z).1,rfl,vs,List.getElem?_set_self hl⟩,fun z=>absurd rfl z,a2.nd⟩
theorem WS.Lx {i l q c:Nat} {cs:List Nat} (w:WS P h0 n0 H st ρ τ (F1++⟨i,l,2,cs⟩ :: F2)) {vs:List U} {xs ds:List T} (hx:τ[i]?=some (some (.lst xs))) (hc:cs[q]?=some c) (p:PXs 0 H st vs ds) :
   WS P h0 n0 H (st.set c (false,vs)) ρ (τ.set i (some (.lst (xs.set q (.lst ds))))) (F1++⟨i,l,2,cs⟩ :: F2)∧Stp P H st H (st.set c (false,vs)):=by
 obtain ⟨a1,a2,a3⟩:=w.ent _ (List.mem_append_right _ (List.mem_cons_self ..))
 obtain ⟨_,gl,e1,e2⟩:=a2.two (show (2:Nat) ≠ 1 by decide)
 have hcm:c ∈ cs:=List.mem_of_getElem? hc
 have hl:c < st.length:=a2.lt c (List.mem_cons_of_mem _ hcm)
 have ncl:c ≠ l:=fun z=>(List.nodup_cons.mp a2.nd).1 (z ▸ hcm)
 have ndc:=(List.nodup_cons.mp a2.nd).2
 have kp:∀ (k:Nat) c',k ∉ (⟨i,l,2,cs⟩:En).ft→st[k]?=some c'→(st.set c (false,vs))[k]?=some c':=fun k c' hk q=>by
   rw [List.getElem?_set_ne (nin (List.mem_cons_of_mem _ hcm) hk)]; exact q
 have cl:(st.set c (false,vs))[l]?=some (false,cs.map .loc):=by rw [List.getElem?_set_ne ncl]; exact e1
 obtain ⟨u,f1,f2,_⟩:=w.val i _ hx
 rw [a1] at f1
 have:u=.loc l:=by simpa using f1.symm
 subst this
 have r0:aR st (cs.map .loc) xs:=by
   cases f2 with
   | loc e r=>rw [e1] at e; cases e; exact r
 have key:aR (st.set c (false,vs)) (cs.map .loc) (xs.set q (.lst ds)):=by
   refine aR.mk (by rw [List.length_set]; exact r0.length) fun j u d g1 g2=>?_
   rw [List.getElem?_map] at g1
   obtain ⟨c',g3,rfl⟩:=Option.map_eq_some_iff.mp g1
   by_cases hj:j=q
   · subst hj
     rw [hc] at g3; cases g3
     have hjl:j < xs.length:=by
       have:=(List.getElem?_eq_some_iff.mp g2).1
       rwa [List.length_set] at this
     rw [List.getElem?_set_self hjl] at g2
     cases g2
     exact .loc (List.getElem?_set_self hl) (w.Cu kp p)
   · rw [List.getElem?_set_ne (Ne.symm hj)] at g2
     obtain ⟨u,g4,g5⟩:=r0.get g2
     rw [List.getElem?_map,g3] at g4
     cases g4
     have ncc:c ≠ c':=fun z=>hj (by
       subst z
       obtain ⟨h1,h2⟩:=List.getElem?_eq_some_iff.mp g3
       obtain ⟨h3,h4⟩:=List.getElem?_eq_some_iff.mp hc
       exact (List.getElem_inj ndc).mp (h2.trans h4.symm))
     obtain ⟨b1,b2,ws,b3⟩:=e2 c' (List.mem_of_getElem? g3)
     cases g5 with
     | loc e r=>
       rw [b3] at e; cases e
       exact .loc (by rw [List.getElem?_set_ne ncc]; exact b3) (w.Cu kp ⟨r,fun u hu=>.inl (w.wf.av _ _ _ b2 b3 u hu)⟩)
 refine WS.write (e:=⟨i,l,2,cs⟩) w (List.mem_cons_of_mem _ hcm) (fun v hv=>(p.2 v hv).zero) (.loc cl key) ⟨a2.hl,(fun z=>by cases z),fun _=>⟨rfl,gl,cl,fun k hk=>?_⟩,a2.nd⟩
 obtain ⟨b1,b2,ws,b3⟩:=e2 k hk
 refine ⟨b1,b2,?_⟩
 by_cases z:k=c
 · subst z; exact ⟨vs,List.getElem?_set_self hl⟩
 · exact ⟨ws,by rw [List.getElem?_set_ne (Ne.symm z)]; exact b3⟩
theorem jM:∀ {F:List En} {i:Nat},0 < cg (bB F) i→∃ F1 e F2,F=F1++e :: F2∧e.i=i∧e.lv=cg (bB F) i
 | [],i,h=>by simp [cg,bB] at h
 | e :: F,i,h=>by
   by_cases z:i=e.i
   · subst z
     exact ⟨[],e,F,rfl,rfl,by simp [cg,bB,List.lookup_cons]⟩
   · have e1:cg (bB (e :: F)) i=cg (bB F) i:=by
       have:(i == e.i)=false:=beq_eq_false_iff_ne.mpr z
       simp [cg,bB,List.lookup_cons,this]
     rw [e1] at h ⊢
     obtain ⟨F1,e',F2,rfl,h2,h3⟩:=jM h
     exact ⟨e :: F1,e',F2,rfl,h2,h3⟩
end
end Sv
namespace Sv
open PySem PySem.Spec L2
open Ev (D aZ bp ai)
structure GrM (X:Nat→Prop) (h:Hd) (st:Sto) (h':Hd) (st':Sto):Prop where
 len:st.length≤st'.length
 keep:∀ k,k < st.length→¬ X k→st'[k]?=st[k]?
 hm:∀ k,h.h k→¬ X k→h'.h k
 gm:∀ k,h.g k→¬ X k→h'.g k
 hn:∀ k,k < st.length→h'.h k→h.h k∧¬ X k
 gn:∀ k,k < st.length→h'.g k→h.g k∧¬ X k
 wf:Wf h' st'
noncomputable def GdM {α β:Type} (X:Nat→Prop) (h:Hd) (st:Sto) (P:Hd→Sto→α→β→Prop) (x:Rs α):Ou β→Prop
 | .bad=>True
 | .ok d=>∃ u st' h',x=.ok u st'∧GrM X h st h' st'∧P h' st' u d
 | .exc c=>∃ st' h',x=.exc c st'∧GrM X h st h' st'
noncomputable def oV (md:Md) (F:List U→Sto→Rs U) (G:List T→Ou T):Prop:=
 0 < md.mv→md.lv=0∧∀ h st l cs us x ds,Wf h st→Ent h st l cs md.mv→Rep st (.loc l) x→PXs 0 h st us ds→GdM (fun k=>k ∈ l :: cs) h st (PX 0) (F (.loc l :: us) st) (G (x :: ds))
section
variable {P:Nat→Prop} {h0 H:Hd} {n0:Nat} {st:Sto} {ρ:Env} {τ:aC} {F F1 F2:List En}
theorem WS.moved {e:En} (w:WS P h0 n0 H st ρ τ (F1++e :: F2)) {H':Hd} {st':Sto} (g:GrM (fun k=>k ∈ e.ft) H st H' st'):WS P h0 n0 H' st' ρ (τ.set e.i none) (F1++F2)∧Stp P H st H' st':=by
 have he:e ∈ F1++e :: F2:=List.mem_append_right _ (List.mem_cons_self ..)
 obtain ⟨a1,a2,a3⟩:=w.ent e he
 obtain ⟨nv1,nv2⟩:=uR w.nv
 have kp:∀ (k:Nat) c,k ∉ e.ft→st[k]?=some c→st'[k]?=some c:=fun k c hk q=>(g.keep k (List.getElem?_eq_some_iff.mp q).1 hk).trans q
 have pk:∀ k,P k→k ∉ e.ft:=fun k hk z=>a3 k z hk
 have ft:∀ k,k ∈ foot (F1++e :: F2)→k ∉ e.ft→k ∈ foot (F1++F2):=fun k hk hn=>by
   obtain ⟨e',he',hk'⟩:=bZ.mp hk
   rcases df he' with rfl | he''
   · exact absurd hk' hn
   · exact bZ.mpr ⟨e',he'',hk'⟩
 refine ⟨⟨by rw [List.length_set]; exact w.len,fun i d q=>?_,g.wf,fun e' he'=>?_,CU w.nd,nv1,fun k z=>⟨g.hm k (w.bh k z).1 (pk k (w.bh k z).2),(w.bh k z).2⟩,fun k z=>g.gm k (w.bg k z) (pk k (w.bh k (h0.sub k z)).2),fun k z=>?_,fun k z=>?_,w.pl,Nat.le_trans w.nl g.len⟩,
   ⟨g.len,fun k hk=>g.keep k (Nat.lt_of_lt_of_le (w.pl k hk) w.nl) (pk k hk),fun k c hn q=>kp k c (fun z=>hn (a2.hid k z)) q,fun k hk z=>(g.hn k hk z).1,fun k hk z=>(g.gn k hk z).1⟩⟩
 · obtain ⟨ne,q⟩:=get_none q
   obtain ⟨u,e1,r,a⟩:=w.mx kp (Ne.symm ne) q
   refine ⟨u,e1,r,fun hn l hl=>?_⟩
   have av:=a fun e' he'=>by
     rcases df he' with rfl | he'
     · exact ne
     · exact hn e' he'
   exact ⟨Nat.lt_of_lt_of_le (av l hl).1 g.len,fun z=>(av l hl).2 (g.hn l (av l hl).1 z).1⟩
 · obtain ⟨b1,b2,b3⟩:=w.ent e' (mem_mid he')
   have ap:∀ k ∈ e'.l :: e'.cs,k ∉ e.ft:=fun k hk z=>jb w.nd he' z hk
   exact ⟨b1,b2.hd fun k hk=>⟨fun z=>g.hm k z (ap k hk),fun z=>g.gm k z (ap k hk),fun z=>(g.gn k (b2.lt k hk) z).1,g.keep k (b2.lt k hk) (ap k hk)⟩,b3⟩
 · rcases Nat.lt_or_ge k st.length with q | q
   · obtain ⟨z1,z2⟩:=g.hn k q z
     exact (w.oh k z1).imp id (Or.imp (fun z=>ft k z z2) id)
   · exact .inr (.inr (Nat.le_trans w.nl q))
 · rcases Nat.lt_or_ge k st.length with q | q
   · obtain ⟨z1,z2⟩:=g.gn k q z
     exact (w.og k z1).imp id (Or.imp (fun z=>ft k z z2) id)
   · exact .inr (.inr (Nat.le_trans w.nl q))
end
theorem yp (g:Nat→Nat→Bool):∀ (a b:Own),dn g (a++b)=dn g a++dn g b
 | [],b=>rfl
 | (i,lv) :: r,b=>by
   rw [List.cons_append,dn,dn,yp g r b]
   split
   · split <;> rfl
   · rfl
theorem wQ {g:Nat→Nat→Bool}:∀ {own:Own},(∀ i lv,(i,lv) ∈ own→g i lv=false)→dn g own=own
 | [],_=>rfl
 | (i,lv) :: r,h=>by
   rw [dn,h i lv (List.mem_cons_self ..),wQ fun j k hj=>h j k (List.mem_cons_of_mem _ hj)]; rfl
theorem mW (F G:List En):bB (F++G)=bB F++bB G:=List.map_append
theorem vH {F1 F2:List En} {e:En} (nv:((F1++e :: F2).map (·.i)).Nodup):(∀ i lv,(i,lv) ∈ bB F1→i ≠ e.i)∧∀ i lv,(i,lv) ∈ bB F2→i ≠ e.i:=by
 have h:=(uR nv).2
 refine ⟨fun i lv hi=>?_,fun i lv hi=>?_⟩ <;> (obtain ⟨e',he',z⟩:=List.mem_map.mp hi; cases z)
 · exact h e' (List.mem_append_left _ he')
 · exact h e' (List.mem_append_right _ he')
theorem Dd {F1 F2:List En} {e:En} (nv:((F1++e :: F2).map (·.i)).Nodup):dn (fun i _=>i == e.i) (bB (F1++e :: F2))=bB (F1++F2):=by
 obtain ⟨h1,h2⟩:=vH nv
 rw [mW,mW,yp,wQ fun i lv hi=>beq_eq_false_iff_ne.mpr (h1 i lv hi)]
 show _++dn _ ((e.i,e.lv) :: bB F2)=_
 rw [dn,if_pos (by simp),if_neg (by simp),wQ fun i lv hi=>beq_eq_false_iff_ne.mpr (h2 i lv hi)]
theorem wR {F1 F2:List En} {e:En} (nv:((F1++e :: F2).map (·.i)).Nodup) (hl:e.lv=1∨e.lv=2):dn (fun i lv=>i == e.i && lv == 2) (bB (F1++e :: F2))=bB (F1++⟨e.i,e.l,1,[]⟩ :: F2):=by
 obtain ⟨h1,h2⟩:=vH nv
 rw [mW,mW,yp,wQ fun i lv hi=>by rw [beq_eq_false_iff_ne.mpr (h1 i lv hi)]; rfl]
 show _++dn _ ((e.i,e.lv) :: bB F2)=_++((e.i,1) :: bB F2)
 have h3:dn (fun i lv=>i == e.i && lv == 2) (bB F2)=bB F2:=wQ fun i lv hi=>by rw [beq_eq_false_iff_ne.mpr (h2 i lv hi)]; rfl
 rcases hl with z | z
 · rw [dn,z,if_neg (by simp),h3]
 · rw [dn,z,if_pos (by simp),if_pos ⟨rfl,by simp⟩,h3]
theorem tI {t:Tg}:∀ {own:Own} {p:Nat × Nat},p ∈ dn (frg t) own→p ∈ own
 | [],_,h=>by cases h
 | (i,lv) :: r,p,h=>by
   rw [dn] at h
   split at h
   · rename_i hz
     rw [if_neg (fun z=>by have:=z.2; unfold frg at this hz; rw [hz] at this; cases this)] at h
     exact List.mem_cons_of_mem _ (tI h)
   · rcases List.mem_cons.mp h with h | h
     · exact h ▸ List.mem_cons_self ..
     · exact List.mem_cons_of_mem _ (tI h)
section
variable {P:Nat→Prop} {h0 H:Hd} {n0:Nat} {st:Sto} {ρ:Env} {τ:aC} {F F1 F2:List En}
theorem WS.uF (w:WS P h0 n0 H st ρ τ F) {e:En} (he:e ∈ F):e.lv=1∨e.lv=2:=by
 by_cases z:e.lv=1
 · exact .inl z
 · exact .inr ((w.ent e he).2.1.two z).1
theorem WS.to1 {e:En} (w:WS P h0 n0 H st ρ τ (F1++e :: F2)):∃ H',WS P h0 n0 H' st ρ τ (F1++⟨e.i,e.l,1,[]⟩ :: F2)∧Stp P H st H' st:=by
 have he:e ∈ F1++e :: F2:=List.mem_append_right _ (List.mem_cons_self ..)
 rcases w.uF he with z | z
 · obtain ⟨i,l,lv,cs⟩:=e
   dsimp only at z
   subst z
   obtain ⟨_,rfl,_⟩:=(w.ent _ he).2.1.one rfl
   exact ⟨H,w,.refl⟩
 · obtain ⟨i,l,lv,cs⟩:=e
   dsimp only at z
   subst z
   exact WS.down w
theorem WS.own (w:WS P h0 n0 H st ρ τ (F1++⟨v,l,lv,cs⟩ :: F2)) {xs:List T} (hx:τ[v]?=some (some (.lst xs))):ρ[v]?=some (some (.loc l))∧Rep st (.loc l) (.lst xs)∧Ent H st l cs lv:=by
 obtain ⟨a1,a2,_⟩:=w.ent _ (List.mem_append_right _ (List.mem_cons_self ..))
 obtain ⟨u,e1,r,_⟩:=w.val v _ hx
 rw [a1] at e1
 have:u=.loc l:=by simpa using e1.symm
 subst this
 exact ⟨a1,r,a2⟩
end
theorem mj {st:Sto} {l:Nat} {us:List U} {ds:List T} (r:Rep st (.loc l) (.lst ds)) (e:st[l]?=some (false,us)):aR st us ds:=by
 cases r with
 | loc e' r=>rw [e] at e'; cases e'; exact r
theorem zu {α:Type}:∀ {xs:List α} {n:Nat} {a x:α},x ∈ xs.insertIdx n a→x=a∨x ∈ xs
 | xs,0,a,x,h=>by rw [List.insertIdx_zero] at h; exact List.mem_cons.mp h
 | [],n + 1,a,x,h=>by simp at h
 | y :: ys,n + 1,a,x,h=>by
   rw [List.insertIdx_succ_cons] at h
   rcases List.mem_cons.mp h with h | h
   · exact .inr (h ▸ List.mem_cons_self ..)
   · exact (zu h).imp id (List.mem_cons_of_mem _)
theorem Cb {h:Hd} {st:Sto} {l:Nat} {us vs:List U} {xs ds:List T} {m:Lm} {ys:List T} (e:st[l]?=some (false,us)) (p:PXs 0 h st us xs) (q:PXs 0 h st vs ds) (hz:zM m xs ds=some ys) :
   ∃ ws,evM m (.loc l) vs st=some (st.set l (false,ws))∧PXs 0 h st ws ys:=by
 have hlen:=p.1.length
 have hd:=q.1.length
 cases m with
 | append=>
   match ds,vs,q,hz with
   | [x],[v],q,hz=>
     simp only [zM.eq_def] at hz
     split at hz
     · rename_i hl
       cases hz
       exact ⟨us++[v],by simp only [evM.eq_def,e,hlen,if_pos hl],p.append q⟩
     · cases hz
   | [],_,_,hz=>simp [zM.eq_def] at hz
   | _ :: _ :: _,_,_,hz=>simp [zM.eq_def] at hz
 | extend=>match ds,hz with
   | [],hz=>simp [zM.eq_def] at hz
   | _ :: _,hz=>simp [zM.eq_def] at hz
 | insert=>
   match ds,q,hz with
   | [.int i,x],⟨.cons (u:=w1) r1 (.cons (u:=w2) r2 .nil),hq⟩,hz=>
     have:=r1.int_inv; subst this
     simp only [zM.eq_def] at hz
     split at hz
     · rename_i hl
       cases hz
       refine ⟨us.insertIdx i.toNat w2,by simp only [evM.eq_def,e,hlen,if_pos hl],p.1.insert _ r2,fun u hu=>?_⟩
       rcases zu hu with rfl | hu
       · exact hq _ (by simp)
       · exact p.2 u hu
     · cases hz
   | [],_,hz=>simp [zM.eq_def] at hz
   | [a],_,hz=>cases a <;> simp [zM.eq_def] at hz
   | [.non,_],_,hz | [.bl _,_],_,hz | [.str _,_],_,hz | [.tup _,_],_,hz | [.lst _,_],_,hz | [.exo _,_],_,hz=>simp [zM.eq_def] at hz
   | a :: _ :: _ :: _,_,hz=>cases a <;> simp [zM.eq_def] at hz
 | pop=>
   match ds,vs,q,hz with
   | [],[],q,hz=>
     simp only [zM.eq_def] at hz
     split at hz
     · cases hz
     · rename_i hl
       cases hz
       have hne:us ≠ []:=fun z=>hl (by rw [← hlen,z]; rfl)
       refine ⟨us.dropLast,by simp only [evM.eq_def,e,if_neg hne],p.1.dropLast,fun u hu=>p.2 u (List.dropLast_subset us hu)⟩
   | _ :: _,_,_,hz=>simp [zM.eq_def] at hz
 | popAt=>
   match ds,q,hz with
   | [.int i],⟨.cons (u:=w1) r1 .nil,hq⟩,hz=>
     have:=r1.int_inv; subst this
     simp only [zM.eq_def] at hz
     split at hz
     · rename_i hl
       obtain ⟨j,e1,rfl⟩:=Option.map_eq_some_iff.mp hz
       refine ⟨us.eraseIdx j,by simp only [evM.eq_def,e,hlen,if_pos hl,e1,Option.map_some],p.1.erase _,fun u hu=>p.2 u (List.mem_of_mem_eraseIdx hu)⟩
     · cases hz
   | [],_,hz=>simp [zM.eq_def] at hz
   | [.non],_,hz | [.bl _],_,hz | [.str _],_,hz | [.tup _],_,hz | [.lst _],_,hz | [.exo _],_,hz=>simp [zM.eq_def] at hz
   | a :: _ :: _,_,hz=>cases a <;> simp [zM.eq_def] at hz
 | clear=>
   match ds,vs,q,hz with
   | [],[],q,hz=>
     simp only [zM.eq_def,Option.some.injEq] at hz
     subst hz
     exact ⟨[],by simp only [evM.eq_def,e],.nil⟩
   | _ :: _,_,_,hz=>simp [zM.eq_def] at hz
noncomputable def RF (P:Nat→Prop) (h0:Hd) (S0:Sto) (lv:Nat) (H:Hd) (st:Sto):FlT→Fl→Sto→Prop
 | .nx τ' own',.nx ρ',st'=>∃ H' F',bB F'=own'∧WS P h0 S0.length H' st' ρ' τ' F'∧Stp P H st H' st'
 | .bk τ' own',.bk ρ',st'=>∃ H' F',bB F'=own'∧WS P h0 S0.length H' st' ρ' τ' F'∧Stp P H st H' st'
 | .ct τ' own',.ct ρ',st'=>∃ H' F',bB F'=own'∧WS P h0 S0.length H' st' ρ' τ' F'∧Stp P H st H' st'
 | .rt d,.rt u,st'=>∃ H',Fin P h0 S0.length st H' st'∧FrR lv S0 H' st' u d
 | _,_,_=>False
noncomputable def GS (P:Nat→Prop) (h0:Hd) (S0:Sto) (lv:Nat) (H:Hd) (st:Sto) (x:Rs Fl):Ou FlT→Prop
 | .bad=>True
 | .exc c=>∃ st' H',x=.exc c st'∧Fin P h0 S0.length st H' st'
 | .ok f=>∃ f' st',x=.ok f' st'∧RF P h0 S0 lv H st f f' st'
section
variable {P:Nat→Prop} {h0 H H1:Hd} {S0:Sto} {lv:Nat} {st st1:Sto}
theorem Fin.back {n0:Nat} {H2:Hd} {st2:Sto} (s:Stp P H st H1 st1) (o:Fin P h0 n0 st1 H2 st2):Fin P h0 n0 st H2 st2:=⟨Nat.le_trans s.len o.len,fun k hk=>(o.lo k hk).trans (s.lo k hk),o.wf,o.hm,o.gm,o.hn,o.gn⟩
theorem RF.back {f:FlT} {f':Fl} {st2:Sto} (s:Stp P H st H1 st1) (o:RF P h0 S0 lv H1 st1 f f' st2):RF P h0 S0 lv H st f f' st2:=by
 cases f <;> cases f' <;> first
   | (obtain ⟨H',F',a,b,c⟩:=o; exact ⟨H',F',a,b,s.trans c⟩)
   | (obtain ⟨H',a,b⟩:=o; exact ⟨H',a.back s,b⟩)
   | exact o.elim
theorem GS.back {x:Rs Fl} {r:Ou FlT} (s:Stp P H st H1 st1) (g:GS P h0 S0 lv H1 st1 x r):GS P h0 S0 lv H st x r:=by
 cases r with
 | bad=>trivial
 | exc c=>obtain ⟨st',H',e,o⟩:=g; exact ⟨st',H',e,o.back s⟩
 | ok f=>obtain ⟨f',st',e,o⟩:=g; exact ⟨f',st',e,o.back s⟩
theorem ez {α β:Type} {Q:Hd→Sto→α→β→Prop} {x:Rs α} {r:Ou β} {f:α→Sto→Rs Fl} {k:β→Ou FlT} {ρ:Env} {τ:aC} {F:List En} (w:WS P h0 S0.length H st ρ τ F) (g:Gd H st Q x r)
   (n:∀ u d st' H',Gr H st H' st'→WS P h0 S0.length H' st' ρ τ F→Q H' st' u d→GS P h0 S0 lv H' st' (f u st') (k d)):GS P h0 S0 lv H st (x.bind f) (r.bind k):=by
 cases r with
 | bad=>trivial
 | exc c=>
   obtain ⟨st',H',e,p⟩:=g
   subst e
   obtain ⟨w1,s1⟩:=w.gr p
   obtain ⟨H2,w2,s2⟩:=w1.fin
   exact ⟨st',H2,rfl,(w2.out.back s2).back s1⟩
 | ok d=>
   obtain ⟨u,st',H',e,p,q⟩:=g
   subst e
   obtain ⟨w1,s1⟩:=w.gr p
   exact (n u d st' H' p w1 q).back s1
theorem yD {x:Rs Fl} {r:Ou FlT} {f:Fl→Sto→Rs Fl} {k:FlT→Ou FlT} (g:GS P h0 S0 lv H st x r) (n:∀ fl fl' st',RF P h0 S0 lv H st fl fl' st'→GS P h0 S0 lv H st (f fl' st') (k fl)):GS P h0 S0 lv H st (x.bind f) (r.bind k):=by
 cases r with
 | bad=>trivial
 | exc c=>obtain ⟨st',H',e,o⟩:=g; subst e; exact ⟨st',H',rfl,o⟩
 | ok fl=>
   obtain ⟨fl',st',e,o⟩:=g
   subst e
   exact n fl fl' st' o
theorem GS.noX {x:Rs Fl} {r:Ou FlT} (g:GS P h0 S0 lv H st x r):GS P h0 S0 lv H st x.noX r.noX:=by
 cases r with
 | bad=>trivial
 | exc c=>trivial
 | ok d=>obtain ⟨u,st',e,q⟩:=g; subst e; exact ⟨u,st',rfl,q⟩
theorem cu {α:Type} {x:Rs Fl} {o:Option α} {k:α→Ou FlT} (n:∀ a,o=some a→GS P h0 S0 lv H st x (k a)):GS P h0 S0 lv H st x (bH o k):=by
 cases o with
 | none=>trivial
 | some a=>exact n a rfl
theorem yU {q:Sq} {xs:List T} (wf:Wf H st) (s:Stp P H st H1 st1) (hn:SqN H q) (hq:SqR H st q xs):SqN H1 q∧SqR H1 st1 q xs:=by
 induction q generalizing xs with
 | vals us=>
   refine ⟨trivial,hq.1.keep wf s.keep fun u hu l hl=>((hq.2 u hu).zero l hl).2,fun u hu=>.inl fun l hl=>?_⟩
   have:=(hq.2 u hu).zero l hl
   exact ⟨Nat.lt_of_lt_of_le this.1 s.len,fun z=>this.2 (s.hid l this.1 z)⟩
 | lst l=>
   obtain ⟨ng,fz,us,e,r⟩:=hq
   have hl:=(List.getElem?_eq_some_iff.mp e).1
   exact ⟨fun z=>hn (s.hid l hl z),fun z=>ng (s.gid l hl z),fz,us,s.keep l _ hn e,r.keep wf s.keep fun u hu l hl=>(wf.av _ _ _ ng e u hu l hl).2⟩
 | enu l=>
   obtain ⟨ng,fz,us,ys,e,r,rfl⟩:=hq
   have hl:=(List.getElem?_eq_some_iff.mp e).1
   exact ⟨fun z=>hn (s.hid l hl z),fun z=>ng (s.gid l hl z),fz,us,ys,s.keep l _ hn e,r.keep wf s.keep fun u hu l hl=>(wf.av _ _ _ ng e u hu l hl).2,rfl⟩
 | zip p q ihp ihq=>
   obtain ⟨as,bs,s1,s2,rfl⟩:=hq
   obtain ⟨a1,a2⟩:=ihp hn.1 s1
   obtain ⟨b1,b2⟩:=ihq hn.2 s2
   exact ⟨⟨a1,b1⟩,as,bs,a2,b2,rfl⟩
end
theorem qN {P:Nat→Prop} {h0:Hd} {S0:Sto} {lv:Nat} {f:U→Env→Sto→Rs Fl} {g:T→aC→Own→Ou FlT} {q:Sq} {xs:List T}
   (hf:∀ x u st H ρ τ F,WS P h0 S0.length H st ρ τ F→PX 0 H st u x→GS P h0 S0 lv H st (f u ρ st) (g x τ (bB F))) :
   ∀ (n i:Nat) (st:Sto) (H:Hd) (ρ:Env) (τ:aC) (F:List En),WS P h0 S0.length H st ρ τ F→SqN H q→SqR H st q xs→i≤xs.length→i + n=xs.length + 1→GS P h0 S0 lv H st (loop f q n i ρ st) (cT g (xs.drop i) τ (bB F))
 | 0,i,st,H,ρ,τ,F,_,_,_,hi,e=>by omega
 | n + 1,i,st,H,ρ,τ,F,w,hn,hq,hi,e=>by
   rw [loop]
   rcases hq.at w.wf i with ⟨e1,e2⟩ | ⟨x,u,e1,e2,px⟩
   · rw [e2]
     dsimp only
     rw [List.drop_eq_nil_of_le (List.getElem?_eq_none_iff.mp e1),cT]
     exact ⟨_,_,rfl,H,F,rfl,w,.refl⟩
   · rw [e2]
     dsimp only
     have hl:=(List.getElem?_eq_some_iff.mp e1).1
     have e3:xs.drop i=x :: xs.drop (i + 1):=by
       rw [List.drop_eq_getElem_cons hl]
       rw [(List.getElem?_eq_some_iff.mp e1).2]
     rw [e3,cT]
     refine yD (hf x u st H ρ τ F w px) fun fl fl' st' o=>?_
     cases fl <;> cases fl' <;> first | exact o.elim | skip
     · obtain ⟨H1,F1,rfl,w1,s1⟩:=o
       obtain ⟨hn1,hq1⟩:=yU w.wf s1 hn hq
       exact (qN hf n (i + 1) st' _ _ _ _ w1 hn1 hq1 hl (by omega)).back s1
     · exact ⟨_,_,rfl,o⟩
     · exact ⟨_,_,rfl,o⟩
     · obtain ⟨H1,F1,rfl,w1,s1⟩:=o
       obtain ⟨hn1,hq1⟩:=yU w.wf s1 hn hq
       exact (qN hf n (i + 1) st' _ _ _ _ w1 hn1 hq1 hl (by omega)).back s1
theorem n8 {P:Nat→Prop} {h0:Hd} {S0:Sto} {lv:Nat} {c:Env→Sto→Rs U} {c':aC→Ou T} {f:Env→Sto→Rs Fl} {g:aC→Own→Ou FlT} {k:Nat→Nat→Bool}
   (hc:∀ st H ρ τ F,WS P h0 S0.length H st ρ τ F→(∀ i lv,(i,lv) ∈ bB F→k i lv=false)→Gd H st (PX 2) (c ρ st) (c' τ))
   (hf:∀ st H ρ τ F,WS P h0 S0.length H st ρ τ F→GS P h0 S0 lv H st (f ρ st) (g τ (bB F))) :
   ∀ (n:Nat) (st:Sto) (H:Hd) (ρ:Env) (τ:aC) (F:List En),WS P h0 S0.length H st ρ τ F→GS P h0 S0 lv H st (oU c f n ρ st) (iH c' k g n τ (bB F))
 | 0,_,_,_,_,_,_=>trivial
 | n + 1,st,H,ρ,τ,F,w=>by
   rw [oU,iH]
   obtain ⟨H0,F0,e0,w0,s0⟩:=w.dn0 k
   rw [← e0]
   refine (ez w0 (hc st H0 ρ τ F0 w0 fun i lv hi=>Ac (by rw [← e0]; exact hi)) fun u d st1 H1 g1 w1 hu=>?_).back s0
   cases d with
   | bl r=>
     have:=hu.1.jD; subst this
     cases r with
     | false=>exact ⟨_,_,rfl,H1,F0,rfl,w1,.refl⟩
     | true=>
       dsimp only
       refine yD (hf st1 H1 ρ τ _ w1) fun fl fl' st' o=>?_
       cases fl <;> cases fl' <;> first | exact o.elim | skip
       · obtain ⟨H2,F2,rfl,w2,s2⟩:=o
         exact (n8 hc hf n st' _ _ _ _ w2).back s2
       · exact ⟨_,_,rfl,o⟩
       · exact ⟨_,_,rfl,o⟩
       · obtain ⟨H2,F2,rfl,w2,s2⟩:=o
         exact (n8 hc hf n st' _ _ _ _ w2).back s2
   | _=>trivial
end Sv
namespace Sv
open PySem PySem.Spec L2
open Ev (D aZ bp ai)
theorem EI {x:T} (h:1≤lvT x):∃ ds,x=.lst ds:=by
 cases x with
 | lst ds=>exact ⟨ds,rfl⟩
 | _=>simp [lvT] at h
theorem yN {ds:List T} (h:2≤lvT (.lst ds)):ds.all isL=true:=by
 simp only [lvT] at h
 split at h
 · assumption
 · omega
theorem Cs (x:T):lvT x≤2:=by
 cases x with
 | lst ds=>simp only [lvT]; split <;> decide
 | _=>simp [lvT]
theorem kR {τ:aC} {v:Nat} {x:T} (h:ax τ v=.ok x):τ[v]?=some (some x):=by
 unfold ax at h
 split at h
 · rename_i d e; cases h; exact e
 · cases h
theorem jR {r:Ou T} {xs:List T} (h:gH r=some xs):r=.ok (.lst xs):=by
 cases r with
 | ok x=>cases x <;> first | (cases h; rfl) | (cases h; done)
 | _=>cases h
theorem oS {r:T} {xs:List T} (h:jS r=some xs):r=.lst xs:=by cases r <;> first | (cases h; rfl) | (cases h; done)
theorem jH {r:T} {i:Int} (h:intOf r=some i):r=.int i:=by cases r <;> first | (cases h; rfl) | (cases h; done)
section
variable {Ψ ΨM:FnT} {X:Fx} {n:Nat} {τ:aC} {own:Own}
theorem bY:yS Ψ ΨM X n (.set t (.call f (.var v :: es))) τ own=if 0 < (X.μ f).mv then
       (if (X.μ f).mv≤cg (dn (fun i lv=>bQ X.μ i lv 0 es) own) v then
         (ax τ v).bind fun x=>(yEs Ψ es τ).bind fun xs=>(ΨM f (x :: xs)).bind fun d=>pw (aw t d (τ.set v none)) (cm X (dn (fun i _=>i == v) (dn (fun i lv=>bQ X.μ i lv 0 es) own)) t (.call f (.var v :: es)) d (τ.set v none))
       else .bad)
     else (yE Ψ (.call f (.var v :: es)) τ).bind fun x=>pw (aw t x τ) (cm X (dn (fun i lv=>gts X.μ i lv 0 (.call f (.var v :: es))) own) t (.call f (.var v :: es)) x τ):=rfl
theorem gC:yS Ψ ΨM X n (.put (.var v) i e) τ own=(yE Ψ e τ).bind fun z=>bH (gH (ax τ v)) fun xs=>(yE Ψ i τ).bind fun y=>CB τ (dn (fun k lv=>gts X.μ k lv 0 e || gts X.μ k lv 2 i) own) v xs y z:=rfl
theorem fb:yS Ψ ΨM X n (.put (.ix (.var v) a) i e) τ own=if cg (dn (fun k lv=>gts X.μ k lv 0 e || gts X.μ k lv 2 a || gts X.μ k lv 2 i) own) v=2 then
     (yE Ψ e τ).bind fun z=>bH (gH (ax τ v)) fun xs=>(yE Ψ a τ).bind fun p=>bH (intOf p) fun p=>bH (L2.ixN xs.length p) fun q=>bH (xs[q]?.bind jS) fun ys=>(yE Ψ i τ).bind fun y=>
       wj τ (dn (fun k lv=>gts X.μ k lv 0 e || gts X.μ k lv 2 a || gts X.μ k lv 2 i) own) v xs ys q y z
   else .bad:=rfl
theorem gy:yS Ψ ΨM X n (.mth m (.var v) es) τ own=bH (gH (ax τ v)) fun xs=>if 0 < cg (dn (fun k lv=>bQ X.μ k lv 0 es) own) v then (yEs Ψ es τ).bind fun ds=>qO m τ (dn (fun k lv=>bQ X.μ k lv 0 es) own) v xs ds else .bad:=rfl
theorem ff:yS Ψ ΨM X n (.mth m (.ix (.var v) a) es) τ own=bH (gH (ax τ v)) fun xs=>if cg (dn (fun k lv=>gts X.μ k lv 2 a || bQ X.μ k lv 0 es) own) v=2 then
     (yE Ψ a τ).bind fun p=>bH (intOf p) fun p=>bH (L2.ixN xs.length p) fun q=>bH (xs[q]?.bind jS) fun ys=>(yEs Ψ es τ).bind fun ds=>wD m τ (dn (fun k lv=>gts X.μ k lv 2 a || bQ X.μ k lv 0 es) own) v xs ys ds q
   else .bad:=rfl
theorem fJ:yS Ψ ΨM X n (.ret e) τ own=(yE Ψ e τ).bind fun x=>if X.lv=0∨isL x=false then .ok (.rt x) else match e with
   | .var i=>if X.lv≤cg own i then .ok (.rt x) else .bad
   | e=>if X.lv≤min (cD X.μ e) (lvT x) then .ok (.rt x) else .bad:=rfl
theorem eP:yS Ψ ΨM X n (.retN) τ own=.ok (.rt .non):=rfl
theorem fL:yS Ψ ΨM X n (.ite c a b) τ own=(yE Ψ c τ).bind fun x=>match x with
   | .bl true=>ySs Ψ ΨM X n a τ (dn (fun k lv=>gts X.μ k lv 2 c) own)
   | .bl false=>ySs Ψ ΨM X n b τ (dn (fun k lv=>gts X.μ k lv 2 c) own)
   | _=>.bad:=rfl
theorem gA:yS Ψ ΨM X n (.for t it body) τ own=((yIt Ψ it τ).bind fun xs=>cT (fun x τ' own'=>match aw t x τ' with
     | some τ2=>ySs Ψ ΨM X n body τ2 (dn (frg t) own')
     | none=>.bad) xs τ (dn (fun k lv=>dI X.μ k lv 0 it) own)).noX:=rfl
theorem dQ:yS Ψ ΨM X n (.while c body) τ own=(iH (fun τ'=>yE Ψ c τ') (fun k lv=>gts X.μ k lv 2 c) (fun τ' own'=>ySs Ψ ΨM X n body τ' own') n τ own).noX:=rfl
theorem bL:yS Ψ ΨM X n (.expr (.call f (.var v :: es))) τ own=if 0 < (X.μ f).mv then
       (if (X.μ f).mv≤cg (dn (fun i lv=>bQ X.μ i lv 0 es) own) v then
         (ax τ v).bind fun x=>(yEs Ψ es τ).bind fun xs=>(ΨM f (x :: xs)).bind fun _=>.ok (.nx (τ.set v none) (dn (fun i _=>i == v) (dn (fun i lv=>bQ X.μ i lv 0 es) own)))
       else .bad)
     else (yE Ψ (.call f (.var v :: es)) τ).bind fun _=>.ok (.nx τ (dn (fun i lv=>gts X.μ i lv 0 (.call f (.var v :: es))) own)):=rfl
theorem dO:yS Ψ ΨM X n (.raise c) τ own=.exc c:=rfl
theorem gw:yS Ψ ΨM X n (.brk) τ own=.ok (.bk τ own):=rfl
theorem eY:yS Ψ ΨM X n (.cont) τ own=.ok (.ct τ own):=rfl
theorem gv:yS Ψ ΨM X n (.pas) τ own=.ok (.nx τ own):=rfl
theorem gB:yS Ψ ΨM X n (.nev) τ own=.bad:=rfl
end
section
variable {Φ:Fn} {Ψ ΨM:FnT} {X:Fx} (HP:∀ f,Pure (X.μ f) (Φ f) (Ψ f)) (HM:∀ f,oV (X.μ f) (Φ f) (ΨM f)) {P:Nat→Prop} {h0:Hd} {S0:Sto}
theorem fT {F:List En} {own:Own} {g:Nat→Nat→Bool} (h:bB F=dn g own):∀ i lv,(i,lv) ∈ bB F→g i lv=false:=fun i lv hi=>Ac (by rw [← h]; exact hi)
include HP
theorem Jr {H:Hd} {st:Sto} {ρ:Env} {τ:aC} {F:List En} (t:Tg) (e:E) (w:WS P h0 S0.length H st ρ τ F) (ng:∀ i lv,(i,lv) ∈ bB F→gts X.μ i lv 0 e=false) :
   GS P h0 S0 X.lv H st ((xE Φ e ρ st).bind fun x st1=>match iz t x ρ with | some ρ'=>.ok (.nx ρ') st1 | none=>.bad) ((yE Ψ e τ).bind fun x=>pw (aw t x τ) (cm X (bB F) t e x τ)):=by
 obtain ⟨H1,F1,e1,w1,s1⟩:=w.dn0 (frg t)
 have ng1:∀ i lv,(i,lv) ∈ bB F1→gts X.μ i lv 0 e=false:=fun i lv hi=>ng i lv (tI (by rw [← e1]; exact hi))
 have ord:GS P h0 S0 X.lv H st ((xE Φ e ρ st).bind fun x st1=>match iz t x ρ with | some ρ'=>.ok (.nx ρ') st1 | none=>.bad) ((yE Ψ e τ).bind fun x=>pw (aw t x τ) (bB F1)):=by
   refine (ez w1 (gE HP e 0 w1.we w1.wf ng1) fun u d st2 H2 g2 w2 hu=>?_).back s1
   cases z:aw t d τ with
   | none=>trivial
   | some τ'=>
     obtain ⟨ρ',f1,w3⟩:=w2.iz (uB e1) hu z
     rw [f1]
     exact ⟨_,_,rfl,H2,F1,rfl,w3,.refl⟩
 cases hy:yE Ψ e τ with
 | bad=>trivial
 | exc c=>rw [hy] at ord; exact ord
 | ok x=>
   rw [hy,Ou.aa] at ord
   rw [Ou.aa]
   cases t with
   | tp is=>simp only [cm]; rw [← e1]; exact ord
   | nm i=>
     simp only [cm]
     split
     · rename_i hc
       rw [Bool.and_eq_true] at hc
       split
       · rw [← e1]; exact ord
       · rename_i hz
         have l1:1≤lvT x:=by omega
         obtain ⟨ds,rfl⟩:=EI l1
         have hl:i < τ.length:=by
           have:=hc.2
           rcases Nat.lt_or_ge i τ.length with q | q
           · exact q
           · rw [List.getElem?_eq_none q] at this; cases this
         have key:∃ u st' H',xE Φ e ρ st=.ok u st'∧Gr H1 st H' st'∧FrN (min (cD X.μ e) (lvT (.lst ds))) st H' st' u (.lst ds):=by
           have:=Cs (.lst ds)
           rcases (by omega:min (cD X.μ e) (lvT (.lst ds))=1∨min (cD X.μ e) (lvT (.lst ds))=2) with z | z
           · rw [z]; exact gN1 HP e w1.we w1.wf ng1 (by omega) ds hy
           · rw [z]; exact gN2 HP e w1.we w1.wf ng1 (by omega) ds hy (yN (by omega))
         obtain ⟨u,st',H',f1,g1,fn⟩:=key
         obtain ⟨l,cs,rfl,w2,s2⟩:=w1.take (uB e1 i (List.mem_singleton_self i)) hl g1 fn
         rw [f1,Rs.aa]
         refine ⟨_,_,rfl,H',_,?_,w2,s1.trans s2⟩
         rw [← e1]; rfl
     · rw [← e1]; exact ord
theorem Gf {H:Hd} {st:Sto} {ρ:Env} {τ:aC} {F:List En} (hP:X.lv ≠ 0→∀ k,k < S0.length→P k) (e:E) (w:WS P h0 S0.length H st ρ τ F) (n:Nat):GS P h0 S0 X.lv H st (xS Φ n (.ret e) ρ st) (yS Ψ ΨM X n (.ret e) τ (bB F)):=by
 simp only [xS,bY,gC,fb,gy,ff,fJ,eP,fL,gA,dQ,bL,dO,gw,eY,gv,gB]
 obtain ⟨H1,w1,s1⟩:=w.fin
 cases hy:yE Ψ e τ with
 | bad=>trivial
 | exc c=>
   have:=(gE HP e 0 w1.we w1.wf fun _ _ z=>nomatch z)
   rw [hy] at this
   obtain ⟨st',H',e1,g⟩:=this
   obtain ⟨w2,s2⟩:=w1.gr g
   exact ⟨st',H',by rw [e1]; rfl,(w2.out.back s2).back s1⟩
 | ok x=>
   rw [Ou.aa]
   have new:∀ {lv:Nat},lv=X.lv→(∃ u st' H',xE Φ e ρ st=.ok u st'∧Gr H1 st H' st'∧FrN lv st H' st' u x)→lv ≠ 0→isL x=true→GS P h0 S0 X.lv H st ((xE Φ e ρ st).bind fun x st1=>.ok (.rt x) st1) (.ok (.rt x)):=fun {lv} hlv ⟨u,st',H',e1,g,fn⟩ h1 h2=>by
     subst hlv
     obtain ⟨w2,s2⟩:=w1.gr g
     refine ⟨.rt u,st',by rw [e1]; rfl,H',(w2.out.back s2).back s1,FrN.r ?_ h1 h2⟩
     obtain ⟨r,l,cs,z,en,nl⟩:=fn
     exact ⟨r,l,cs,z,en,fun k hk=>Nat.le_trans w1.nl (nl k hk)⟩
   split
   · rename_i hc
     obtain ⟨u,st',H',e1,g,p⟩:=(gE HP e 0 w1.we w1.wf fun _ _ z=>nomatch z).inv hy
     obtain ⟨w2,s2⟩:=w1.gr g
     refine ⟨.rt u,st',by rw [e1]; rfl,H',(w2.out.back s2).back s1,?_⟩
     unfold FrR
     rw [if_pos hc]
     exact p
   · rename_i hc
     rw [not_or] at hc
     have hl:isL x=true:=by
       cases h:isL x with
       | true=>rfl
       | false=>exact absurd h hc.2
     split
     · rename_i i
       split
       · rename_i hlv
         obtain ⟨xs,rfl⟩:∃ xs,x=.lst xs:=by cases x <;> first | exact ⟨_,rfl⟩ | cases hl
         have hx:τ[i]?=some (some (.lst xs)):=kR (by simpa only [yE] using hy)
         obtain ⟨Fa,en,Fb,rfl,rfl,hen⟩:=jM (F:=F) (i:=i) (by omega)
         rw [← hen] at hlv
         have drop1:∀ (Fa Fb:List En) {H:Hd},WS P h0 S0.length H st ρ τ (Fa++en :: Fb)→∃ H',WS P h0 S0.length H' st ρ τ [en]∧Stp P H st H' st:=by
           intro Fa Fb
           induction Fa with
           | nil=>
             induction Fb with
             | nil=>exact fun {H} w=>⟨H,w,.refl⟩
             | cons b Fb ih=>
               intro H w
               rw [show ([]:List En)++en :: b :: Fb=[en]++b :: Fb by simp] at w
               obtain ⟨H',w',s'⟩:=w.drop
               obtain ⟨H2,w2,s2⟩:=ih w'
               exact ⟨H2,w2,s'.trans s2⟩
           | cons a Fa ih=>
             intro H w
             rw [show (a :: Fa)++en :: Fb=[]++a :: (Fa++en :: Fb) by simp] at w
             obtain ⟨H',w',s'⟩:=w.drop
             obtain ⟨H2,w2,s2⟩:=ih w'
             exact ⟨H2,w2,s'.trans s2⟩
         obtain ⟨H2,w2,s2⟩:=drop1 Fa Fb w
         have uF:=w2.uF (List.mem_singleton_self en)
         have key:∃ H3 cs,WS P h0 S0.length H3 st ρ τ [⟨en.i,en.l,X.lv,cs⟩]∧Stp P H2 st H3 st:=by
           rcases (by omega:X.lv=en.lv∨(X.lv=1∧en.lv=2)) with z | z
           · exact ⟨H2,en.cs,by rw [z]; exact w2,.refl⟩
           · obtain ⟨H3,w3,s3⟩:=WS.to1 (F1:=[]) (F2:=[]) w2
             exact ⟨H3,[],by rw [z.1]; exact w3,s3⟩
         obtain ⟨H3,cs,w3,s3⟩:=key
         obtain ⟨a1,a2,a3⟩:=w3.own (F1:=[]) (F2:=[]) hx
         obtain ⟨_,_,b3⟩:=w3.ent _ (List.mem_singleton_self _)
         have big:∀ k ∈ en.l :: cs,S0.length≤k:=fun k hk=>Nat.not_lt.mp fun z=>b3 k hk (hP hc.1 k z)
         refine ⟨.rt (.loc en.l),st,by simp only [xE,rA,a1,Rs.aa],H3,?_,FrN.r ⟨a2,en.l,cs,rfl,a3,big⟩ hc.1 rfl⟩
         refine Fin.back (s2.trans s3) ⟨Nat.le_refl _,fun _ _=>rfl,w3.wf,fun k z=>(w3.bh k z).1,w3.bg,fun k hk z=>(w3.oh k z).elim id fun q=>q.elim (fun q=>?_) fun q=>absurd hk (Nat.not_lt.mpr q),fun k hk z=>(w3.og k z).elim id fun q=>q.elim (fun q=>?_) fun q=>absurd hk (Nat.not_lt.mpr q)⟩
         · obtain ⟨e',he',hk'⟩:=bZ.mp q
           rw [List.mem_singleton] at he'
           subst he'
           exact absurd hk (Nat.not_lt.mpr (big k hk'))
         · obtain ⟨e',he',hk'⟩:=bZ.mp q
           rw [List.mem_singleton] at he'
           subst he'
           exact absurd hk (Nat.not_lt.mpr (big k hk'))
       · trivial
     · split
       · rename_i hlv
         obtain ⟨xs,rfl⟩:∃ xs,x=.lst xs:=by cases x <;> first | exact ⟨_,rfl⟩ | cases hl
         have:=Cs (.lst xs)
         rcases (by omega:X.lv=1∨X.lv=2) with z | z
         · exact new z.symm (gN1 HP e w1.we w1.wf (fun _ _ z=>nomatch z) (by omega) xs hy) (by decide) rfl
         · exact new z.symm (gN2 HP e w1.we w1.wf (fun _ _ z=>nomatch z) (by omega) xs hy (yN (by omega))) (by decide) rfl
       · trivial
theorem zx {H:Hd} {st:Sto} {ρ:Env} {τ:aC} {F:List En} (HM:∀ f,oV (X.μ f) (Φ f) (ΨM f)) {f v:Nat} {es:List E} {k:U→Sto→Rs Fl} {kT:T→Ou FlT} (w:WS P h0 S0.length H st ρ τ F) (hm:0 < (X.μ f).mv)
   (n:∀ u d st' H' F',bB F'=dn (fun i _=>i == v) (dn (fun i lv=>bQ X.μ i lv 0 es) (bB F))→WS P h0 S0.length H' st' ρ (τ.set v none) F'→PX 0 H' st' u d→GS P h0 S0 X.lv H' st' (k u st') (kT d)) :
   GS P h0 S0 X.lv H st ((xE Φ (.call f (.var v :: es)) ρ st).bind k) (if (X.μ f).mv≤cg (dn (fun i lv=>bQ X.μ i lv 0 es) (bB F)) v then (ax τ v).bind fun x=>(yEs Ψ es τ).bind fun xs=>(ΨM f (x :: xs)).bind kT else .bad):=by
 split
 · rename_i hlv
   obtain ⟨H1,F1,e1,w1,s1⟩:=w.dn0 fun i lv=>bQ X.μ i lv 0 es
   rw [← e1] at hlv n
   obtain ⟨Fa,en,Fb,rfl,rfl,hen⟩:=jM (F:=F1) (i:=v) (by omega)
   rw [← hen] at hlv
   cases hg:ax τ en.i with
   | bad=>trivial
   | exc c=>unfold ax at hg; split at hg <;> cases hg
   | ok x=>
     rw [Ou.aa]
     have hx:=kR hg
     obtain ⟨u0,f0,r0,_⟩:=w1.val _ _ hx
     obtain ⟨a1,a2,a3⟩:=w1.ent en (List.mem_append_right _ (List.mem_cons_self ..))
     rw [a1] at f0
     have:u0=.loc en.l:=by simpa using f0.symm
     subst this
     have uF:=w1.uF (e:=en) (List.mem_append_right _ (List.mem_cons_self ..))
     have hE:∀ z,xE Φ (.call f (.var en.i :: es)) ρ st=z→z=((xEs Φ es ρ st).bind fun us st1=>Φ f (.loc en.l :: us) st1):=fun z hz=>by
       rw [← hz]
       simp only [xE,xEs,rA,a1,Rs.aa]
       cases xEs Φ es ρ st <;> rfl
     rw [hE _ rfl]
     have hA:=gEs HP es 0 w1.we w1.wf (fT e1)
     generalize xEs Φ es ρ st=xa at hA
     generalize yEs Ψ es τ=ya at hA
     cases ya with
     | bad=>trivial
     | exc c=>
       obtain ⟨st',H',e,g⟩:=hA
       subst e
       obtain ⟨w2,s2⟩:=w1.gr g
       obtain ⟨H3,w3,s3⟩:=w2.fin
       exact ⟨st',H3,rfl,((w3.out.back s3).back s2).back s1⟩
     | ok xs=>
       obtain ⟨us,st2,H2,e,g2,p2⟩:=hA
       subst e
       rw [Ou.aa,Rs.aa]
       obtain ⟨w2,s2⟩:=w1.gr g2
       have p2':=p2
       have key:∃ H3 cs,WS P h0 S0.length H3 st2 ρ τ (Fa++⟨en.i,en.l,(X.μ f).mv,cs⟩ :: Fb)∧Stp P H2 st2 H3 st2:=by
         rcases (by omega:(X.μ f).mv=en.lv∨((X.μ f).mv=1∧en.lv=2)) with z | z
         · exact ⟨H2,en.cs,by rw [z]; exact w2,.refl⟩
         · obtain ⟨H3,w3,s3⟩:=WS.to1 w2
           exact ⟨H3,[],by rw [z.1]; exact w3,s3⟩
       obtain ⟨H3,cs,w3,s3⟩:=key
       have p3:PXs 0 H3 st2 us xs:=⟨p2.1,fun u hu=>.inl fun l hl=>⟨((p2.2 u hu).zero l hl).1,fun z=>((p2.2 u hu).zero l hl).2 (s3.hid l ((p2.2 u hu).zero l hl).1 z)⟩⟩
       obtain ⟨b1,b2,b3⟩:=w3.ent _ (List.mem_append_right _ (List.mem_cons_self ..))
       have gm:=(HM f hm).2 H3 st2 en.l cs us x xs w3.wf b2 (r0.ext g2.pre) p3
       have own:bB (Fa++Fb)=dn (fun i _=>i == en.i) (bB (Fa++en :: Fb)):=(Dd w1.nv).symm
       generalize ΨM f (x :: xs)=y at gm
       cases y with
       | bad=>trivial
       | exc c=>
         obtain ⟨st',H',e,g⟩:=gm
         rw [e]
         obtain ⟨w4,s4⟩:=w3.moved g
         obtain ⟨H5,w5,s5⟩:=w4.fin
         exact ⟨st',H5,rfl,((((w5.out.back s5).back s4).back s3).back s2).back s1⟩
       | ok d=>
         obtain ⟨u,st',H',e,g,p⟩:=gm
         rw [e,Rs.aa,Ou.aa]
         obtain ⟨w4,s4⟩:=w3.moved g
         exact ((((n u d st' H' _ own w4 p).back s4).back s3).back s2).back s1
 · trivial
end
end Sv
namespace Sv
open PySem PySem.Spec L2
open Ev (D aZ bp ai)
section
variable {Φ:Fn} {Ψ ΨM:FnT} {X:Fx} (HP:∀ f,Pure (X.μ f) (Φ f) (Ψ f)) (HM:∀ f,oV (X.μ f) (Φ f) (ΨM f)) {P:Nat→Prop} {h0:Hd} {S0:Sto} (hP:X.lv ≠ 0→∀ k,k < S0.length→P k) (n:Nat)
include HP
theorem HY {H:Hd} {st:Sto} {ρ:Env} {τ:aC} {F:List En} (v:Nat) (i e:E) (w:WS P h0 S0.length H st ρ τ F):GS P h0 S0 X.lv H st (xS Φ n (.put (.var v) i e) ρ st) (yS Ψ ΨM X n (.put (.var v) i e) τ (bB F)):=by
 simp only [xS,bY,gC,fb,gy,ff,fJ,eP,fL,gA,dQ,bL,dO,gw,eY,gv,gB]
 obtain ⟨H0,F0,e0,w0,s0⟩:=w.dn0 fun k lv=>gts X.μ k lv 0 e || gts X.μ k lv 2 i
 rw [← e0]
 refine (ez w0 (gE HP e 0 w0.we w0.wf fun k lv hk=>(bS (fT e0 k lv hk)).1) fun z z' st1 H1 g1 w1 hz=>?_).back s0
 refine cu fun xs hxs=>?_
 have hx:=kR (jR hxs)
 obtain ⟨u,f0,r0,_⟩:=w1.val _ _ hx
 simp only [xE,rA,f0,Rs.aa]
 refine ez w1 (gE HP i 2 w1.we w1.wf fun k lv hk=>(bS (fT e0 k lv hk)).2) fun y y' st2 H2 g2 w2 hy=>?_
 unfold CB
 refine cu fun k hk=>cu fun j hj=>?_
 have:=jH hk; subst this
 have:=hy.1.int_inv; subst this
 split
 · rename_i hlv
   obtain ⟨Fa,en,Fb,rfl,rfl,hen⟩:=jM (F:=F0) (i:=v) hlv
   obtain ⟨H3,w3,s3⟩:=WS.to1 w2
   obtain ⟨a1,a2,a3⟩:=w3.own hx
   rw [f0] at a1
   have:u=.loc en.l:=by simpa using a1
   subst this
   obtain ⟨ng,_,us,cell⟩:=a3.one rfl
   have rs:=mj a2 cell
   have hz2:=hz.gr g2
   have hz3:PX 0 H3 st2 z z':=.of hz2.1 fun l hl=>⟨(hz2.av l hl).1,fun q=>(hz2.av l hl).2 (s3.hid l (hz2.av l hl).1 q)⟩
   obtain ⟨w4,s4⟩:=w3.Ka (vs:=us.set j z) (ds:=xs.set j z') ⟨rs.set j hz3.1,fun u hu=>by
     rcases List.mem_or_eq_of_mem_set hu with hu | rfl
     · exact .inl (w3.wf.av _ _ _ ng cell u hu)
     · exact hz3.2⟩
   refine ⟨.nx ρ,st2.set en.l (false,us.set j z),?_,H3,_,(wR w2.nv (w2.uF (List.mem_append_right _ (List.mem_cons_self ..)))).symm,w4,s3.trans s4⟩
   simp only [evP.eq_def,cell,rs.length,hj,Option.map_some,ofS]
 · trivial
omit HP in
theorem vE {H:Hd} {st:Sto} {ρ:Env} {τ:aC} {Fa Fb:List En} {v l:Nat} {cs:List Nat} {xs ys:List T} {p:Int} {q:Nat} (w:WS P h0 S0.length H st ρ τ (Fa++⟨v,l,2,cs⟩ :: Fb)) (hx:τ[v]?=some (some (.lst xs))) (hq:L2.ixN xs.length p=some q) (hy:xs[q]?=some (.lst ys)) :
   ∃ c us,evI (.loc l) (.int p) st=.ok (.loc c) st∧cs[q]?=some c∧st[c]?=some (false,us)∧PXs 0 H st us ys:=by
 obtain ⟨a1,a2,a3⟩:=w.own hx
 obtain ⟨_,gl,e1,e2⟩:=a3.two (by decide)
 have rs:=mj a2 e1
 obtain ⟨u,g1,g2⟩:=rs.get hy
 rw [List.getElem?_map] at g1
 obtain ⟨c,g3,rfl⟩:=Option.map_eq_some_iff.mp g1
 obtain ⟨b1,b2,ws,b3⟩:=e2 c (List.mem_of_getElem? g3)
 refine ⟨c,ws,?_,g3,b3,mj g2 b3,fun u hu=>.inl (w.wf.av _ _ _ b2 b3 u hu)⟩
 have hl:=rs.length
 simp only [evI.eq_def,seq?,e1,Option.map_some,L2.atI]
 rw [hl,hq,Option.bind_some,List.getElem?_map,g3]
 rfl
omit HP in
theorem vQ {α β γ:Type} (x:Rs α) (f:α→Sto→Rs β) (g:β→Sto→Rs γ):(x.bind f).bind g=x.bind fun a s=>(f a s).bind g:=by cases x <;> rfl
theorem Ek {H:Hd} {st:Sto} {ρ:Env} {τ:aC} {F:List En} (v:Nat) (a i e:E) (w:WS P h0 S0.length H st ρ τ F):GS P h0 S0 X.lv H st (xS Φ n (.put (.ix (.var v) a) i e) ρ st) (yS Ψ ΨM X n (.put (.ix (.var v) a) i e) τ (bB F)):=by
 simp only [xS,bY,gC,fb,gy,ff,fJ,eP,fL,gA,dQ,bL,dO,gw,eY,gv,gB]
 obtain ⟨H0,F0,e0,w0,s0⟩:=w.dn0 fun k lv=>gts X.μ k lv 0 e || gts X.μ k lv 2 a || gts X.μ k lv 2 i
 rw [← e0]
 split
 · rename_i hlv
   obtain ⟨Fa,⟨v',l,lv,cs⟩,Fb,rfl,rfl,hen⟩:=jM (F:=F0) (i:=v) (by omega)
   rw [hlv] at hen
   dsimp only at hen
   subst hen
   refine (ez w0 (gE HP e 0 w0.we w0.wf fun k lv hk=>(bS (bS (fT e0 k lv hk)).1).1) fun z z' st1 H1 g1 w1 hz=>?_).back s0
   refine cu fun xs hxs=>?_
   have hx:=kR (jR hxs)
   obtain ⟨a1,a2,a3⟩:=w1.own hx
   have hE:∀ y,xE Φ (.ix (.var v') a) ρ st1=y→y=(xE Φ a ρ st1).bind fun p st2=>evI (.loc l) p st2:=fun y hy=>by
     rw [← hy]; simp only [xE,rA,a1,Rs.aa]
   rw [hE _ rfl,vQ]
   refine ez w1 (gE HP a 2 w1.we w1.wf fun k lv hk=>(bS (bS (fT e0 k lv hk)).1).2) fun p p' st2 H2 g2 w2 hp=>?_
   refine cu fun pi hpi=>cu fun q hq=>cu fun ys hys=>?_
   have:=jH hpi; subst this
   have:=hp.1.int_inv; subst this
   obtain ⟨yt,hy1,hy2⟩:=Option.bind_eq_some_iff.mp hys
   have:=oS hy2; subst this
   obtain ⟨c,us,c1,c2,c3,c4⟩:=vE w2 hx hq hy1
   rw [c1,Rs.aa]
   refine ez w2 (gE HP i 2 w2.we w2.wf fun k lv hk=>(bS (fT e0 k lv hk)).2) fun y y' st3 H3 g3 w3 hy=>?_
   unfold wj
   refine cu fun k hk=>cu fun j hj=>?_
   have:=jH hk; subst this
   have:=hy.1.int_inv; subst this
   have hz3:=(hz.gr g2).gr g3
   have c3':=gL g3.pre _ _ c3
   have c4':=c4.gr g3
   obtain ⟨w4,s4⟩:=w3.Lx (vs:=us.set j z) (ds:=ys.set j z') hx c2 ⟨c4'.1.set j hz3.1,fun u hu=>by
     rcases List.mem_or_eq_of_mem_set hu with hu | rfl
     · exact c4'.2 u hu
     · exact hz3.2⟩
   refine ⟨.nx ρ,st3.set c (false,us.set j z),?_,H3,_,rfl,w4,s4⟩
   simp only [evP.eq_def,c3',c4'.1.length,hj,Option.map_some,ofS]
 · trivial
theorem Jj {H:Hd} {st:Sto} {ρ:Env} {τ:aC} {F:List En} (m:Lm) (v:Nat) (es:List E) (w:WS P h0 S0.length H st ρ τ F):GS P h0 S0 X.lv H st (xS Φ n (.mth m (.var v) es) ρ st) (yS Ψ ΨM X n (.mth m (.var v) es) τ (bB F)):=by
 simp only [xS,bY,gC,fb,gy,ff,fJ,eP,fL,gA,dQ,bL,dO,gw,eY,gv,gB]
 obtain ⟨H0,F0,e0,w0,s0⟩:=w.dn0 fun k lv=>bQ X.μ k lv 0 es
 rw [← e0]
 refine cu fun xs hxs=>?_
 have hx:=kR (jR hxs)
 split
 · rename_i hlv
   obtain ⟨Fa,⟨v',l,lv,cs⟩,Fb,rfl,rfl,hen⟩:=jM (F:=F0) (i:=v) hlv
   obtain ⟨a1,a2,a3⟩:=w0.own hx
   simp only [xE,rA,a1,Rs.aa]
   rw [if_pos (a3.lt l (List.mem_cons_self ..))]
   refine (ez w0 (gEs HP es 0 w0.we w0.wf (fT e0)) fun y ds st2 H2 g2 w2 hy=>?_).back s0
   unfold qO
   refine cu fun ys hz=>?_
   obtain ⟨H3,w3,s3⟩:=WS.to1 w2
   obtain ⟨b1,b2,b3⟩:=w3.own hx
   obtain ⟨ng,_,us,cell⟩:=b3.one rfl
   have rs:=mj b2 cell
   have hy3:PXs 0 H3 st2 y ds:=⟨hy.1,fun u hu=>.inl fun l hl=>⟨((hy.2 u hu).zero l hl).1,fun q=>((hy.2 u hu).zero l hl).2 (s3.hid l ((hy.2 u hu).zero l hl).1 q)⟩⟩
   obtain ⟨ws,e5,p5⟩:=Cb cell ⟨rs,fun u hu=>.inl (w3.wf.av _ _ _ ng cell u hu)⟩ hy3 hz
   obtain ⟨w4,s4⟩:=w3.Ka p5
   refine ⟨.nx ρ,st2.set l (false,ws),by rw [e5]; rfl,H3,_,(wR w2.nv (w2.uF (List.mem_append_right _ (List.mem_cons_self ..)))).symm,w4,s3.trans s4⟩
 · trivial
theorem E6 {H:Hd} {st:Sto} {ρ:Env} {τ:aC} {F:List En} (m:Lm) (v:Nat) (a:E) (es:List E) (w:WS P h0 S0.length H st ρ τ F):GS P h0 S0 X.lv H st (xS Φ n (.mth m (.ix (.var v) a) es) ρ st) (yS Ψ ΨM X n (.mth m (.ix (.var v) a) es) τ (bB F)):=by
 simp only [xS,bY,gC,fb,gy,ff,fJ,eP,fL,gA,dQ,bL,dO,gw,eY,gv,gB]
 obtain ⟨H0,F0,e0,w0,s0⟩:=w.dn0 fun k lv=>gts X.μ k lv 2 a || bQ X.μ k lv 0 es
 rw [← e0]
 refine cu fun xs hxs=>?_
 have hx:=kR (jR hxs)
 split
 · rename_i hlv
   obtain ⟨Fa,⟨v',l,lv,cs⟩,Fb,rfl,rfl,hen⟩:=jM (F:=F0) (i:=v) (by omega)
   rw [hlv] at hen
   dsimp only at hen
   subst hen
   obtain ⟨a1,a2,a3⟩:=w0.own hx
   have hE:∀ y,xE Φ (.ix (.var v') a) ρ st=y→y=(xE Φ a ρ st).bind fun p st2=>evI (.loc l) p st2:=fun y hy=>by
     rw [← hy]; simp only [xE,rA,a1,Rs.aa]
   rw [hE _ rfl,vQ]
   refine (ez w0 (gE HP a 2 w0.we w0.wf fun k lv hk=>(bS (fT e0 k lv hk)).1) fun p p' st2 H2 g2 w2 hp=>?_).back s0
   refine cu fun pi hpi=>cu fun q hq=>cu fun ys hys=>?_
   have:=jH hpi; subst this
   have:=hp.1.int_inv; subst this
   obtain ⟨yt,hy1,hy2⟩:=Option.bind_eq_some_iff.mp hys
   have:=oS hy2; subst this
   obtain ⟨c,us,c1,c2,c3,c4⟩:=vE w2 hx hq hy1
   rw [c1,Rs.aa]
   dsimp only
   rw [if_pos (List.getElem?_eq_some_iff.mp c3).1]
   refine ez w2 (gEs HP es 0 w2.we w2.wf fun k lv hk=>(bS (fT e0 k lv hk)).2) fun y ds st3 H3 g3 w3 hy=>?_
   unfold wD
   refine cu fun zs hz=>?_
   obtain ⟨ws,e5,p5⟩:=Cb (gL g3.pre _ _ c3) (c4.gr g3) hy hz
   obtain ⟨w4,s4⟩:=w3.Lx hx c2 p5
   exact ⟨.nx ρ,st3.set c (false,ws),by rw [e5]; rfl,H3,_,rfl,w4,s4⟩
 · trivial
include HM hP
mutual
theorem gS:∀ (s:S) {H:Hd} {st:Sto} {ρ:Env} {τ:aC} {F:List En},WS P h0 S0.length H st ρ τ F→GS P h0 S0 X.lv H st (xS Φ n s ρ st) (yS Ψ ΨM X n s τ (bB F))
 | .set t e,H,st,ρ,τ,F,w=>by
   have gen:∀ (r:Ou FlT),r=((yE Ψ e τ).bind fun x=>pw (aw t x τ) (cm X (dn (fun i lv=>gts X.μ i lv 0 e) (bB F)) t e x τ))→GS P h0 S0 X.lv H st (xS Φ n (.set t e) ρ st) r:=fun r hr=>by
     subst hr
     simp only [xS]
     obtain ⟨H0,F0,e0,w0,s0⟩:=w.dn0 fun i lv=>gts X.μ i lv 0 e
     rw [← e0]
     exact (Jr HP t e w0 (fT e0)).back s0
   by_cases hc:∃ f v es,e=.call f (.var v :: es)
   · obtain ⟨f,v,es,rfl⟩:=hc
     by_cases hm:0 < (X.μ f).mv
     · simp only [xS,bY,gC,fb,gy,ff,fJ,eP,fL,gA,dQ,bL,dO,gw,eY,gv,gB]
       rw [if_pos hm]
       refine zx HP HM w hm fun u d st' H' F' e' w' p=>?_
       have lv0:cD X.μ (.call f (.var v :: es))=0:=(HM f hm).1
       have own0:∀ F x,cm X (bB F) t (.call f (.var v :: es)) x (τ.set v none)=dn (frg t) (bB F):=fun F x=>by
         cases t with
         | tp is=>rfl
         | nm i=>simp only [cm,lv0,Nat.zero_min,if_true]; split <;> rfl
       rw [← e',own0]
       obtain ⟨H1,F1,e1,w1,s1⟩:=w'.dn0 (frg t)
       rw [← e1]
       have p1:PX 0 H1 st' u d:=.of p.1 fun l hl=>⟨(p.av l hl).1,fun q=>(p.av l hl).2 (s1.hid l (p.av l hl).1 q)⟩
       refine GS.back s1 ?_
       cases z:aw t d (τ.set v none) with
       | none=>trivial
       | some τ'=>
         obtain ⟨ρ',f1,w3⟩:=w1.iz (uB e1) p1 z
         rw [f1]
         exact ⟨_,_,rfl,H1,F1,rfl,w3,.refl⟩
     · refine gen _ ?_
       exact if_neg hm
   · refine gen _ ?_
     cases e with
     | call f es=>
       cases es with
       | nil=>rfl
       | cons a r=>
         cases a with
         | var v=>exact absurd ⟨f,v,r,rfl⟩ hc
         | _=>rfl
     | _=>rfl
 | .put a i e,H,st,ρ,τ,F,w=>by
   cases a with
   | var v=>exact HY HP n v i e w
   | ix b c=>
     cases b with
     | var v=>exact Ek HP n v c i e w
     | _=>trivial
   | _=>trivial
 | .mth m a es,H,st,ρ,τ,F,w=>by
   cases a with
   | var v=>exact Jj HP n m v es w
   | ix b c=>
     cases b with
     | var v=>exact E6 HP n m v c es w
     | _=>trivial
   | _=>trivial
 | .ret e,H,st,ρ,τ,F,w=>Gf HP hP e w n
 | .retN,H,st,ρ,τ,F,w=>by
   obtain ⟨H1,w1,s1⟩:=w.fin
   refine ⟨.rt .non,st,rfl,H1,w1.out.back s1,?_⟩
   unfold FrR
   rw [if_pos (.inr rfl)]
   exact .of .non .non
 | .ite c a d,H,st,ρ,τ,F,w=>by
   simp only [xS,bY,gC,fb,gy,ff,fJ,eP,fL,gA,dQ,bL,dO,gw,eY,gv,gB]
   obtain ⟨H0,F0,e0,w0,s0⟩:=w.dn0 fun k lv=>gts X.μ k lv 2 c
   rw [← e0]
   refine (ez w0 (gE HP c 2 w0.we w0.wf (fT e0)) fun x x' st1 H1 g1 w1 hx=>?_).back s0
   cases x' with
   | bl r=>
     have:=hx.1.jD; subst this
     cases r with
     | true=>exact gSs a w1
     | false=>exact gSs d w1
   | _=>trivial
 | .for t it body,H,st,ρ,τ,F,w=>by
   simp only [xS,bY,gC,fb,gy,ff,fJ,eP,fL,gA,dQ,bL,dO,gw,eY,gv,gB]
   obtain ⟨H0,F0,e0,w0,s0⟩:=w.dn0 fun k lv=>dI X.μ k lv 0 it
   rw [← e0]
   refine (GS.noX (ez w0 (gIt HP it 0 (Nat.zero_le _) w0.we w0.wf (fT e0)) fun q xs st1 H1 g1 w1 hq=>?_)).back s0
   rw [hq.2.len]
   have:=qN (P:=P) (h0:=h0) (S0:=S0) (lv:=X.lv) (f:=fun x ρ' st'=>match iz t x ρ' with | some ρ2=>xSs Φ n body ρ2 st' | none=>.bad) (g:=fun x τ' own'=>match aw t x τ' with | some τ2=>ySs Ψ ΨM X n body τ2 (dn (frg t) own') | none=>.bad) (q:=q) (xs:=xs) (fun x u st H ρ τ F w px=>by
     cases z:aw t x τ with
     | none=>trivial
     | some τ'=>
       obtain ⟨H2,F2,e2,w2,s2⟩:=w.dn0 (frg t)
       have p2:PX 0 H2 st u x:=.of px.1 fun l hl=>⟨(px.av l hl).1,fun q=>(px.av l hl).2 (s2.hid l (px.av l hl).1 q)⟩
       obtain ⟨ρ',e1,w3⟩:=w2.iz (uB e2) p2 z
       rw [e1]
       dsimp only
       rw [← e2]
       exact (gSs body w3).back s2) (xs.length + 1) 0 st1 H1 ρ τ F0 w1 (by cases q <;> first | exact hq.1 rfl | trivial) hq.2 (Nat.zero_le _) (Nat.zero_add _)
   exact this
 | .while c body,H,st,ρ,τ,F,w=>by
   simp only [xS,bY,gC,fb,gy,ff,fJ,eP,fL,gA,dQ,bL,dO,gw,eY,gv,gB]
   exact GS.noX (n8 (fun st H ρ τ F w hk=>gE HP c 2 w.we w.wf hk) (fun st H ρ τ F w=>gSs body w) n st H ρ τ F w)
 | .expr e,H,st,ρ,τ,F,w=>by
   have gen:∀ (r:Ou FlT),r=((yE Ψ e τ).bind fun _=>.ok (.nx τ (dn (fun i lv=>gts X.μ i lv 0 e) (bB F))))→GS P h0 S0 X.lv H st (xS Φ n (.expr e) ρ st) r:=fun r hr=>by
     subst hr
     simp only [xS]
     obtain ⟨H0,F0,e0,w0,s0⟩:=w.dn0 fun i lv=>gts X.μ i lv 0 e
     rw [← e0]
     refine (ez w0 (gE HP e 0 w0.we w0.wf (fT e0)) fun u d st1 H1 g1 w1 hu=>?_).back s0
     exact ⟨_,_,rfl,H1,F0,rfl,w1,.refl⟩
   by_cases hc:∃ f v es,e=.call f (.var v :: es)
   · obtain ⟨f,v,es,rfl⟩:=hc
     by_cases hm:0 < (X.μ f).mv
     · simp only [xS,bY,gC,fb,gy,ff,fJ,eP,fL,gA,dQ,bL,dO,gw,eY,gv,gB]
       rw [if_pos hm]
       refine zx HP HM w hm fun u d st' H' F' e' w' p=>?_
       rw [← e']
       exact ⟨_,_,rfl,H',F',rfl,w',.refl⟩
     · refine gen _ ?_
       exact if_neg hm
   · refine gen _ ?_
     cases e with
     | call f es=>
       cases es with
       | nil=>rfl
       | cons a r=>
         cases a with
         | var v=>exact absurd ⟨f,v,r,rfl⟩ hc
         | _=>rfl
     | _=>rfl
 | .raise c,H,st,ρ,τ,F,w=>by
   obtain ⟨H1,w1,s1⟩:=w.fin
   exact ⟨st,H1,rfl,w1.out.back s1⟩
 | .brk,H,st,ρ,τ,F,w=>⟨_,_,rfl,H,F,rfl,w,.refl⟩
 | .cont,H,st,ρ,τ,F,w=>⟨_,_,rfl,H,F,rfl,w,.refl⟩
 | .pas,H,st,ρ,τ,F,w=>⟨_,_,rfl,H,F,rfl,w,.refl⟩
 | .nev,H,st,ρ,τ,F,w=>trivial
theorem gSs:∀ (s:List S) {H:Hd} {st:Sto} {ρ:Env} {τ:aC} {F:List En},WS P h0 S0.length H st ρ τ F→GS P h0 S0 X.lv H st (xSs Φ n s ρ st) (ySs Ψ ΨM X n s τ (bB F))
 | [],H,st,ρ,τ,F,w=>⟨_,_,rfl,H,F,rfl,w,.refl⟩
 | s :: ss,H,st,ρ,τ,F,w=>by
   simp only [xSs,ySs]
   refine yD (gS s w) fun fl fl' st' o=>?_
   cases fl <;> cases fl' <;> first | exact o.elim | skip
   · obtain ⟨H1,F1,rfl,w1,s1⟩:=o
     exact (gSs ss w1).back s1
   · exact ⟨_,_,rfl,o⟩
   · exact ⟨_,_,rfl,o⟩
   · exact ⟨_,_,rfl,o⟩
end
end
end Sv
namespace Sv
open PySem PySem.Spec L2
open Ev (D aZ bp ai)
noncomputable def dh (md:Md):Ou FlT→Ou T
 | .ok (.rt d)=>if md.sc && !vg md.lv d then .bad else .ok d
 | .ok (.nx _ _)=>.ok .non
 | _=>.bad
noncomputable def EW:T→Nat
 | .int i=>i.natAbs
 | _=>0
noncomputable def aI:List T→Nat
 | []=>1
 | d :: r=>EW d + aI r
noncomputable def Dl (md:Md):Own:=if md.mv=0 then [] else [(0,md.mv)]
noncomputable def mkT (Ψ ΨM:FnT) (μ:Nat→Md) (md:Md) (need:List Nat) (ir:List S) (np nl:Nat) (ds:List T):Ou T:=
 if ds.length=np then dh md (ySs Ψ ΨM ⟨μ,need,md.lv⟩ (aI ds) ir (ds.map some++List.replicate (nl - np) none) (Dl md)) else .bad
noncomputable def bw (fs:List (List T→Ou T)) (i:Nat):List T→Ou T:=fs.getD i fun _=>.bad
noncomputable def dU (fs:List Md) (i:Nat):Md:=fs.getD i {}
theorem EO {st:Sto} {u:U} {d:T} (r:Rep st u d):Lr u=EW d:=by cases r <;> rfl
theorem xg {st:Sto}:∀ {us:List U} {ds:List T},aR st us ds→fuel us=aI ds
 | _,_,.nil=>rfl
 | _,_,.cons h r=>by rw [fuel,aI,EO h,xg r]
theorem pre_of {st st':Sto} (hl:st.length≤st'.length) (e:∀ k,k < st.length→st'[k]?=st[k]?):st <+: st':=by
 refine ⟨st'.drop st.length,?_⟩
 apply List.ext_getElem?
 intro k
 rcases Nat.lt_or_ge k st.length with h | h
 · rw [List.getElem?_append_left h,e k h]
 · rw [List.getElem?_append_right h,List.getElem?_drop]
   congr 1; omega
theorem EN {us:List U} {ds:List T} {st:Sto} (r:aR st us ds) {n i:Nat} {d:T} (e:(ds.map some++List.replicate n none)[i]?=some (some d)):∃ u,(us.map some++List.replicate n none)[i]?=some (some u)∧us[i]?=some u∧ds[i]?=some d∧Rep st u d:=by
 by_cases q:i < ds.length
 · rw [List.getElem?_append_left (by rw [List.length_map]; exact q),List.getElem?_map] at e
   cases z:ds[i]? with
   | none=>rw [z] at e; cases e
   | some y=>
     rw [z] at e; cases e
     obtain ⟨v,h1,h2⟩:=r.get z
     refine ⟨v,?_,h1,rfl,h2⟩
     rw [List.getElem?_append_left (by rw [List.length_map,r.length]; exact q),List.getElem?_map,h1]; rfl
 · rw [List.getElem?_append_right (by rw [List.length_map]; omega)] at e
   have:=List.mem_of_getElem? e
   rw [List.mem_replicate] at this
   cases this.2
theorem CZ {h:Hd} {st:Sto} {us:List U} {ds:List T} (wf:Wf h st) (p:PXs 0 h st us ds) (n:Nat) :
   WS (fun k=>k < st.length) h st.length h st (us.map some++List.replicate n none) (ds.map some++List.replicate n none) []:=
 ⟨by simp [p.1.length],fun i d e=>let ⟨u,e1,e2,_,r⟩:=EN p.1 e; ⟨u,e1,r,fun _=>(p.2 u (List.mem_of_getElem? e2)).zero⟩,wf,(fun _ z=>nomatch z),List.nodup_nil,List.nodup_nil,fun k z=>⟨z,wf.lt k z⟩,fun _ z=>z,fun _ z=>.inl z,fun _ z=>.inl z,fun _ z=>z,Nat.le_refl _⟩
section
variable {Φ:Fn} {Ψ ΨM:FnT} {μ:Nat→Md} (HP:∀ f,Pure (μ f) (Φ f) (Ψ f)) (HM:∀ f,oV (μ f) (Φ f) (ΨM f))
theorem AI {md:Md} {r:Ou FlT} {d:T} (hs:md.sc=true) (h:dh md r=.ok d):vg md.lv d=true:=by
 match r,h with
 | .ok (.rt x),h=>
   simp only [dh] at h
   split at h
   · cases h
   · rename_i hc
     cases h
     rw [hs,Bool.true_and,Bool.not_eq_true',Bool.not_eq_false] at hc
     exact hc
 | .ok (.nx _ _),h=>cases h; rfl
 | .ok (.bk _ _),h=>cases h
 | .ok (.ct _ _),h=>cases h
 | .exc _,h=>cases h
 | .bad,h=>cases h
include HP HM
theorem Ed (md:Md) (hm:md.mv=0) (need:List Nat) (ir:List S) (np nl:Nat):Pure md (mk Φ ir np nl) (mkT Ψ ΨM μ md need ir np nl):=by
 refine ⟨fun hs ds d h=>?_,fun h st us ds wf p=>?_⟩
 · unfold mkT at h
   split at h
   · exact AI hs h
   · cases h
 · unfold mk mkT
   rw [p.1.length,xg p.1]
   split
   · have g:=gSs (X:=⟨μ,need,md.lv⟩) HP HM (S0:=st) (fun _ k hk=>hk) (aI ds) ir (CZ wf p (nl - np))
     have e0:bB ([]:List En)=Dl md:=by unfold Dl; rw [if_pos hm]; rfl
     rw [e0] at g
     generalize ySs Ψ ΨM ⟨μ,need,md.lv⟩ (aI ds) ir (ds.map some++List.replicate (nl - np) none) (Dl md)=y at g ⊢
     have fin:∀ {H':Hd} {st':Sto},Fin (fun k=>k < st.length) h st.length st H' st'→Gr h st H' st':=fun {H' st'} f=>⟨pre_of f.len f.lo,f.hm,f.gm,f.hn,f.gn,f.wf⟩
     cases y with
     | bad=>trivial
     | exc c=>trivial
     | ok f=>
       obtain ⟨f',st',e,o⟩:=g
       rw [e]
       cases f <;> cases f' <;> first | exact o.elim | trivial | skip
       · obtain ⟨H1,F1,_,w,s⟩:=o
         obtain ⟨H2,w2,s2⟩:=w.fin
         refine ⟨_,_,H2,rfl,fin ((w2.out.back s2).back s),?_⟩
         unfold FrR
         rw [if_pos (.inr rfl)]
         exact .of .non .non
       · obtain ⟨H1,f1,r1⟩:=o
         simp only [dh]
         split
         · trivial
         · exact ⟨_,_,H1,rfl,fin f1,r1⟩
   · trivial
end
theorem Bv {md:Md} {F:List U→Sto→Rs U}:Pure md F fun _=>.bad:=⟨(fun _ _ _ h=>by cases h),fun _ _ _ _ _ _=>trivial⟩
theorem w8 {md:Md} {F:List U→Sto→Rs U} {G:List T→Ou T} (h:md.mv=0):oV md F G:=fun z=>absurd z (by omega)
inductive cY:List (List U→Sto→Rs U)→List Md→List (List T→Ou T)→List (List T→Ou T)→Prop where
 | nil:cY [] [] [] []
 | cons {f:List U→Sto→Rs U} {m:Md} {g g':List T→Ou T} {fs:List (List U→Sto→Rs U)} {ms:List Md} {gs gs':List (List T→Ou T)} (h:Pure m f g) (h':oV m f g') (r:cY fs ms gs gs'):cY (f :: fs) (m :: ms) (g :: gs) (g' :: gs')
theorem cY.at:∀ {fs:List (List U→Sto→Rs U)} {ms:List Md} {gs gs':List (List T→Ou T)},cY fs ms gs gs'→(∀ i,Pure (dU ms i) (tab fs i) (bw gs i))∧∀ i,oV (dU ms i) (tab fs i) (bw gs' i)
 | _,_,_,_,.nil=>⟨fun i=>by unfold bw; simp only [List.getD_nil]; exact Bv,fun i=>w8 (by simp [dU])⟩
 | _,_,_,_,.cons h h' r=>by
   obtain ⟨r1,r2⟩:=r.at
   refine ⟨fun i=>?_,fun i=>?_⟩
   · cases i with
     | zero=>exact h
     | succ i=>
       have:=r1 i
       unfold tab bw dU at this ⊢
       simpa using this
   · cases i with
     | zero=>exact h'
     | succ i=>
       have:=r2 i
       unfold tab bw dU at this ⊢
       simpa using this
theorem cY.snoc:∀ {fs:List (List U→Sto→Rs U)} {ms:List Md} {gs gs':List (List T→Ou T)} {f:List U→Sto→Rs U} {m:Md} {g g':List T→Ou T},cY fs ms gs gs'→Pure m f g→oV m f g'→cY (fs++[f]) (ms++[m]) (gs++[g]) (gs'++[g'])
 | _,_,_,_,_,_,_,_,.nil,h,h'=>.cons h h' .nil
 | _,_,_,_,_,_,_,_,.cons a b r,h,h'=>.cons a b (r.snoc h h')
theorem cY.def {fs:List (List U→Sto→Rs U)} {ms:List Md} {gs gs':List (List T→Ou T)} (p:cY fs ms gs gs') (md:Md) (hm:md.mv=0) (need:List Nat) (ir:List S) (np nl:Nat):cY (fs++[mk (tab fs) ir np nl]) (ms++[md]) (gs++[mkT (bw gs) (bw gs') (dU ms) md need ir np nl]) (gs'++[fun _=>.bad]):=
 p.snoc (Ed p.at.1 p.at.2 md hm need ir np nl) (w8 hm)
theorem cP {Ψ ΨM:FnT} {μ:Nat→Md} {md:Md} {need:List Nat} {ir:List S} {np nl:Nat} {ds:List T} (h:ds.length=np):mkT Ψ ΨM μ md need ir np nl ds=dh md (ySs Ψ ΨM ⟨μ,need,md.lv⟩ (aI ds) ir (ds.map some++List.replicate (nl - np) none) (Dl md)):=if_pos h
end Sv
namespace Sv
open PySem PySem.Spec L2
open Ev (D aZ bp ai)
section
variable (Ψ ΨM:FnT) (X:Fx) (n:Nat) (τ:aC) (own:Own)
noncomputable def HX (c:E):aC→Ou T:=fun τ=>yE Ψ c τ
noncomputable def Ia (body:List S):aC→Own→Ou FlT:=fun τ own=>ySs Ψ ΨM X n body τ own
noncomputable def cn (t:Tg) (body:List S):T→aC→Own→Ou FlT:=fun x τ own=>match aw t x τ with
 | some τ2=>ySs Ψ ΨM X n body τ2 (dn (frg t) own)
 | none=>.bad
noncomputable def jk (caps:List (Option Nat)) (t:Tg) (ifs:List E) (elt:E):T→Ou (Option T):=fun x=>match aw t x (dB τ caps++[none]) with
 | none=>.bad
 | some τ1=>(yIf Ψ ifs τ1).bind fun b=>if b then (yE Ψ elt τ1).bind fun y=>.ok (some y) else .ok none
theorem DM (c:E):HX Ψ c τ=yE Ψ c τ:=rfl
theorem FC (body:List S):Ia Ψ ΨM X n body τ own=ySs Ψ ΨM X n body τ own:=rfl
theorem cG (t:Tg) (body:List S) (x:T):cn Ψ ΨM X n t body x τ own=match aw t x τ with | some τ2=>ySs Ψ ΨM X n body τ2 (dn (frg t) own) | none=>.bad:=rfl
theorem aj (caps:List (Option Nat)) (t:Tg) (ifs:List E) (elt:E) (x:T):jk Ψ τ caps t ifs elt x=match aw t x (dB τ caps++[none]) with
 | none=>.bad
 | some τ1=>(yIf Ψ ifs τ1).bind fun b=>if b then (yE Ψ elt τ1).bind fun y=>.ok (some y) else .ok none:=rfl
theorem kJ (caps:List (Option Nat)) (t:Tg) (it:It) (ifs:List E) (elt:E):yE Ψ (.comp caps t it ifs elt) τ=(yIt Ψ it τ).bind fun xs=>if xs.length < ai then ((dm (jk Ψ τ caps t ifs elt) xs).bind fun ys=>.ok (.lst ys)).noX else .bad:=by
 rw [yE]
 all_goals rfl
theorem ag (i:Nat):yE Ψ (.var i) τ=ax τ i:=by rw [yE]
theorem oM:yE Ψ .cN τ=.ok .non:=by rw [yE]
theorem g8 (b:Bool):yE Ψ (.cB b) τ=.ok (.bl b):=by rw [yE]
theorem aM (i:Int):yE Ψ (.cI i) τ=.ok (.int i):=by rw [yE]
theorem FW (x:Str):yE Ψ (.cS x) τ=.ok (.str x):=by rw [yE]
theorem cJ (o:Op2) (a b:E):yE Ψ (.op o a b) τ=(yE Ψ a τ).bind fun x=>(yE Ψ b τ).bind fun y=>z2 o x y:=by rw [yE]
noncomputable def Kc:T→Ou T
 | .int i=>.ok (.int (-i))
 | _=>.bad
noncomputable def KN:T→Ou T
 | .bl i=>.ok (.bl (!i))
 | _=>.bad
theorem Gz (a:E):yE Ψ (.neg a) τ=(yE Ψ a τ).bind Kc:=by
 rw [yE]
 all_goals first | rfl | (congr 1; funext x; cases x <;> rfl) | (congr 1; done)
theorem gM (a:E):yE Ψ (.not a) τ=(yE Ψ a τ).bind KN:=by
 rw [yE]
 all_goals first | rfl | (congr 1; funext x; cases x <;> rfl) | (congr 1; done)
theorem bt (o:Cm) (a b:E):yE Ψ (.cmp o a b) τ=(yE Ψ a τ).bind fun x=>(yE Ψ b τ).bind fun y=>ofB (zC o x y):=by rw [yE]
noncomputable def chT (o:Option Bool) (r:Ou T):Ou T:=match o with
 | some true=>r
 | some false=>.ok (.bl false)
 | none=>.bad
theorem cU (o o':Cm) (a b c:E):yE Ψ (.chain o o' a b c) τ=(yE Ψ a τ).bind fun x=>(yE Ψ b τ).bind fun y=>chT (zC o x y) ((yE Ψ c τ).bind fun u=>ofB (zC o' y u)):=by
 rw [yE]
 all_goals first | rfl | (congr 1; funext x; congr 1; funext y; cases zC o x y <;> first | rfl | (rename_i z; cases z <;> rfl)) | (congr 1; done)
noncomputable def Ic (x:T) (r:Ou T):Ou T:=match x with
 | .bl true=>r
 | .bl false=>.ok (.bl false)
 | _=>.bad
noncomputable def orT (x:T) (r:Ou T):Ou T:=match x with
 | .bl true=>.ok (.bl true)
 | .bl false=>r
 | _=>.bad
noncomputable def vR {α:Type} (x:T) (r s:Ou α):Ou α:=match x with
 | .bl true=>r
 | .bl false=>s
 | _=>.bad
theorem ee (a b:E):yE Ψ (.and a b) τ=(yE Ψ a τ).bind fun x=>Ic x (yE Ψ b τ):=by
 rw [yE]
 all_goals first | rfl | (congr 1; funext x; cases x <;> first | rfl | (rename_i z; cases z <;> rfl)) | (congr 1; done)
theorem iW (a b:E):yE Ψ (.or a b) τ=(yE Ψ a τ).bind fun x=>orT x (yE Ψ b τ):=by
 rw [yE]
 all_goals first | rfl | (congr 1; funext x; cases x <;> first | rfl | (rename_i z; cases z <;> rfl)) | (congr 1; done)
theorem xj (c a b:E):yE Ψ (.ite c a b) τ=(yE Ψ c τ).bind fun x=>vR x (yE Ψ a τ) (yE Ψ b τ):=by
 rw [yE]
 all_goals first | rfl | (congr 1; funext x; cases x <;> first | rfl | (rename_i z; cases z <;> rfl)) | (congr 1; done)
noncomputable def iD (f:List T→T) (xs:List T):Ou T:=if xs.length < ai then .ok (f xs) else .bad
theorem jg (es:List E):yE Ψ (.tup es) τ=(yEs Ψ es τ).bind (iD .tup):=by rw [yE]; rfl
theorem dq (es:List E):yE Ψ (.lst es) τ=(yEs Ψ es τ).bind (iD .lst):=by rw [yE]; rfl
theorem bX (a i:E):yE Ψ (.ix a i) τ=(yE Ψ a τ).bind fun x=>(yE Ψ i τ).bind fun y=>zI x y:=by rw [yE]
theorem aL (f:Nat) (es:List E):yE Ψ (.call f es) τ=(yEs Ψ es τ).bind (Ψ f):=by rw [yE]
theorem bA (b:Bi) (es:List E):yE Ψ (.bi b es) τ=(yEs Ψ es τ).bind (zB b):=by rw [yE]
noncomputable def x8 (t:Ty):T→Ou T
 | .exo _=>.bad
 | x=>.ok (.bl (jG t x))
theorem gg (a:E) (t:Ty):yE Ψ (.isi a t) τ=(yE Ψ a τ).bind (x8 t):=by
 rw [yE]
 all_goals first | rfl | (congr 1; funext x; cases x <;> rfl) | (congr 1; done)
theorem pW (a l h:E):yE Ψ (.sl a l h) τ=(yE Ψ a τ).bind fun x=>(yE Ψ l τ).bind fun y=>bH (kv l y) fun lo=>(yE Ψ h τ).bind fun z=>bH (kv h z) fun hi=>zSl x lo hi:=by
 rw [yE]
 all_goals first | rfl | (congr 1; funext x; congr 1; funext y; cases kv l y <;> first | rfl | (dsimp only [bH]; congr 1; funext z; cases kv h z <;> rfl)) | (congr 1; done)
theorem af:yEs Ψ [] τ=.ok []:=by rw [yEs]
theorem ae (e:E) (es:List E):yEs Ψ (e :: es) τ=(yE Ψ e τ).bind fun x=>(yEs Ψ es τ).bind fun xs=>.ok (x :: xs):=by rw [yEs]
theorem bo:yIf Ψ [] τ=.ok true:=by rw [yIf]
noncomputable def K2:T→Ou (List T)
 | .lst xs=>.ok xs
 | .tup xs=>.ok xs
 | _=>.bad
noncomputable def Js:T→Ou (List T)
 | .int j=>if -(2 ^ 62)≤j∧j < 2 ^ 62 then .ok (rangeT 0 j.toNat) else .bad
 | _=>.bad
noncomputable def enT:T→Ou (List T)
 | .lst xs=>.ok (lM 0 xs)
 | _=>.bad
theorem cb (e:E):yIt Ψ (.seq e) τ=(yE Ψ e τ).bind K2:=by
 rw [yIt]
 all_goals first | rfl | (congr 1; funext x; cases x <;> rfl) | (congr 1; done)
theorem Eu (e:E):yIt Ψ (.rng e) τ=(yE Ψ e τ).bind Js:=by
 rw [yIt]
 all_goals first | rfl | (congr 1; funext x; cases x <;> rfl) | (congr 1; done)
theorem FJ (e:E):yIt Ψ (.enu e) τ=(yE Ψ e τ).bind enT:=by
 rw [yIt]
 all_goals first | rfl | (congr 1; funext x; cases x <;> rfl) | (congr 1; done)
theorem Fm (a b:E):yIt Ψ (.zip a b) τ=(yE Ψ a τ).bind fun x=>(yE Ψ b τ).bind fun y=>zpT x y:=by
 rw [yIt]
theorem K3 (xs ys:List T):zpT (.lst xs) (.lst ys)=.ok (km xs ys):=rfl
noncomputable def gU (μ:Nat→Md) (k:Nat) (e:E):Nat→Nat→Bool:=fun i lv=>gts μ i lv k e
noncomputable def gUL (μ:Nat→Md) (k:Nat) (es:List E):Nat→Nat→Bool:=fun i lv=>bQ μ i lv k es
noncomputable def gUI (μ:Nat→Md) (k:Nat) (it:It):Nat→Nat→Bool:=fun i lv=>dI μ i lv k it
noncomputable def gP (μ:Nat→Md) (e i:E):Nat→Nat→Bool:=fun k lv=>gts μ k lv 0 e || gts μ k lv 2 i
noncomputable def gP2 (μ:Nat→Md) (e a i:E):Nat→Nat→Bool:=fun k lv=>gts μ k lv 0 e || gts μ k lv 2 a || gts μ k lv 2 i
noncomputable def gM2 (μ:Nat→Md) (a:E) (es:List E):Nat→Nat→Bool:=fun k lv=>gts μ k lv 2 a || bQ μ k lv 0 es
theorem fO (μ:Nat→Md) (k:Nat) (e:E) (i lv:Nat):gU μ k e i lv=gts μ i lv k e:=rfl
theorem nZ (μ:Nat→Md) (k:Nat) (e:List E) (i lv:Nat):gUL μ k e i lv=bQ μ i lv k e:=rfl
theorem nX (μ:Nat→Md) (k:Nat) (e:It) (i lv:Nat):gUI μ k e i lv=dI μ i lv k e:=rfl
theorem J6 (μ:Nat→Md) (e i:E) (k lv:Nat):gP μ e i k lv=(gts μ k lv 0 e || gts μ k lv 2 i):=rfl
theorem JF (μ:Nat→Md) (e a i:E) (k lv:Nat):gP2 μ e a i k lv=(gts μ k lv 0 e || gts μ k lv 2 a || gts μ k lv 2 i):=rfl
theorem IC (μ:Nat→Md) (a:E) (es:List E) (k lv:Nat):gM2 μ a es k lv=(gts μ k lv 2 a || bQ μ k lv 0 es):=rfl
theorem nr {α:Type} {a:α}:a=a:=of_eq_true (eq_self a)
noncomputable def Ai:E→Bool
 | .var _=>true
 | _=>false
noncomputable def BO:List E→Bool
 | []=>false
 | e :: _=>Ai e
noncomputable def oZ (X:Fx):E→Bool
 | .call f es=>BO es && decide (0 < (X.μ f).mv)
 | _=>false
theorem cy (f:Nat) (es:List E):oZ X (.call f es)=(BO es && decide (0 < (X.μ f).mv)):=nr
theorem cO (e:E) (es:List E):BO (e :: es)=Ai e:=nr
theorem kH (f:Nat) (es:List E):Ai (.call f es)=false:=nr
theorem qe (i:Nat):oZ X (.var i)=false:=nr
theorem gK (i:Nat):Ai (.var i)=true:=nr
theorem tH (μ:Nat→Md) (i:Nat):cD μ (.var i)=0:=rfl
theorem GL (μ:Nat→Md) (b:Bool):cD μ (.cB b)=0:=rfl
theorem gq (o:Op2) (a b:E):oZ X (.op o a b)=false:=nr
theorem EM (μ:Nat→Md) (a b:E):cD μ (.and a b)=0:=rfl
theorem ip (es:List E):oZ X (.lst es)=false:=nr
theorem tR (a i:E):oZ X (.ix a i)=false:=nr
theorem Gw (μ:Nat→Md) (a i:E):cD μ (.ix a i)=0:=rfl
theorem yP (o:Bi) (es:List E):oZ X (.bi o es)=false:=nr
theorem kM (cs:List (Option Nat)) (t:Tg) (it:It) (fs:List E) (e:E):oZ X (.comp cs t it fs e)=false:=nr
theorem iN (μ:Nat→Md) (es:List E):cD μ (.lst es)=1:=by simp only [cD]
theorem mU (μ:Nat→Md) (cs:List (Option Nat)) (t:Tg) (it:It) (fs:List E) (e:E):cD μ (.comp cs t it fs e)=if cD μ e=0 then 1 else 2:=by simp only [cD]
theorem e8 (μ:Nat→Md) (f:Nat) (es:List E):cD μ (.call f es)=(μ f).lv:=by simp only [cD]
theorem EU (μ:Nat→Md) (a b:E):cD μ (.op .add a b)=1:=by simp only [cD]
theorem Bw (μ:Nat→Md) (es:List E):cD μ (.bi .list es)=1:=by simp only [cD]
theorem tZ (μ:Nat→Md) (a b:E):cD μ (.op .mul a b)=0:=rfl
theorem Bu (μ:Nat→Md) (a b:E):cD μ (.op .fdiv a b)=0:=rfl
theorem mD (μ:Nat→Md) (a b:E):cD μ (.op .mod a b)=0:=rfl
theorem xb (μ:Nat→Md) (es:List E):cD μ (.bi .abs es)=0:=rfl
theorem Ce (μ:Nat→Md) (es:List E):cD μ (.bi .int es)=0:=rfl
theorem GP (b:Bool):lvT (.bl b)=0:=rfl
theorem pC (xs:List T):lvT (.lst xs)=if xs.all isL then 2 else 1:=rfl
theorem ba (t:Tg) (e:E) (hm:oZ X e=false):yS Ψ ΨM X n (.set t e) τ own=(yE Ψ e τ).bind fun x=>pw (aw t x τ) (cm X (dn (gU X.μ 0 e) own) t e x τ):=by
 cases e with
 | call f es=>
   cases es with
   | nil=>rfl
   | cons a r=>
     cases a with
     | var v=>exact if_neg (by simpa [oZ,BO,Ai] using hm)
     | _=>rfl
 | _=>rfl
theorem Fc (e:E) (hm:oZ X e=false):yS Ψ ΨM X n (.expr e) τ own=(yE Ψ e τ).bind fun _=>.ok (.nx τ (dn (gU X.μ 0 e) own)):=by
 cases e with
 | call f es=>
   cases es with
   | nil=>rfl
   | cons a r=>
     cases a with
     | var v=>exact if_neg (by simpa [oZ,BO,Ai] using hm)
     | _=>rfl
 | _=>rfl
theorem HQ (v:Nat) (i e:E):yS Ψ ΨM X n (.put (.var v) i e) τ own=(yE Ψ e τ).bind fun z=>bH (gH (ax τ v)) fun xs=>(yE Ψ i τ).bind fun y=>CB τ (dn (gP X.μ e i) own) v xs y z:=by rfl
theorem FG (v:Nat) (a i e:E):yS Ψ ΨM X n (.put (.ix (.var v) a) i e) τ own=if cg (dn (gP2 X.μ e a i) own) v=2 then
     (yE Ψ e τ).bind fun z=>bH (gH (ax τ v)) fun xs=>(yE Ψ a τ).bind fun p=>bH (intOf p) fun p=>bH (L2.ixN xs.length p) fun q=>bH (xs[q]?.bind jS) fun ys=>(yE Ψ i τ).bind fun y=>
       wj τ (dn (gP2 X.μ e a i) own) v xs ys q y z
   else .bad:=by rfl
theorem nO (m:Lm) (v:Nat) (es:List E):yS Ψ ΨM X n (.mth m (.var v) es) τ own=bH (gH (ax τ v)) fun xs=>if 0 < cg (dn (gUL X.μ 0 es) own) v then (yEs Ψ es τ).bind fun ds=>qO m τ (dn (gUL X.μ 0 es) own) v xs ds else .bad:=by rfl
theorem Ft (m:Lm) (v:Nat) (a:E) (es:List E):yS Ψ ΨM X n (.mth m (.ix (.var v) a) es) τ own=bH (gH (ax τ v)) fun xs=>if cg (dn (gM2 X.μ a es) own) v=2 then
     (yE Ψ a τ).bind fun p=>bH (intOf p) fun p=>bH (L2.ixN xs.length p) fun q=>bH (xs[q]?.bind jS) fun ys=>(yEs Ψ es τ).bind fun ds=>wD m τ (dn (gM2 X.μ a es) own) v xs ys ds q
   else .bad:=by rfl
noncomputable def uo (X:Fx) (own:Own) (e:E) (x:T):Ou FlT:=if X.lv=0∨isL x=false then .ok (.rt x) else if X.lv≤(match e with | .var i=>cg own i | e=>min (cD X.μ e) (lvT x)) then .ok (.rt x) else .bad
theorem aJ (e:E):yS Ψ ΨM X n (.ret e) τ own=(yE Ψ e τ).bind (uo X own e):=by
 rw [fJ]
 congr 1
 funext x
 unfold uo
 split
 · rfl
 · cases e <;> rfl
theorem bR (c:E) (a b:List S):yS Ψ ΨM X n (.ite c a b) τ own=(yE Ψ c τ).bind fun x=>vR x (ySs Ψ ΨM X n a τ (dn (gU X.μ 2 c) own)) (ySs Ψ ΨM X n b τ (dn (gU X.μ 2 c) own)):=by
 rw [fL]
 all_goals first | rfl | (congr 1; funext x; cases x <;> first | rfl | (rename_i z; cases z <;> rfl)) | (congr 1; done)
theorem gW (t:Tg) (it:It) (body:List S):yS Ψ ΨM X n (.for t it body) τ own=((yIt Ψ it τ).bind fun xs=>cT (cn Ψ ΨM X n t body) xs τ (dn (gUI X.μ 0 it) own)).noX:=by
 rfl
theorem vI (c:E) (body:List S):yS Ψ ΨM X n (.while c body) τ own=(iH (HX Ψ c) (gU X.μ 2 c) (Ia Ψ ΨM X n body) n τ own).noX:=by
 rfl
theorem aD:ySs Ψ ΨM X n [] τ own=.ok (.nx τ own):=by rw [ySs]
noncomputable def Ew (r:FlT) (k:aC→Own→Ou FlT):Ou FlT:=match r with
 | .nx τ own=>k τ own
 | r=>.ok r
theorem ah (s:S) (ss:List S):ySs Ψ ΨM X n (s :: ss) τ own=(yS Ψ ΨM X n s τ own).bind fun r=>Ew r (ySs Ψ ΨM X n ss):=by
 rw [ySs]
 all_goals first | rfl | (congr 1; funext r; cases r <;> rfl) | (congr 1; done)
end
theorem aV (τ:aC) (own:Own) (k:aC→Own→Ou FlT):Ew (.nx τ own) k=k τ own:=rfl
theorem aB (d:T) (k:aC→Own→Ou FlT):Ew (.rt d) k=.ok (.rt d):=rfl
theorem aA (τ:aC) (own:Own):pw (some τ) own=.ok (.nx τ own):=rfl
theorem aH {α β:Type} (a:α) (f:α→Ou β):bH (some a) f=f a:=rfl
theorem i9 (xs:List T):gH (.ok (.lst xs))=some xs:=rfl
theorem jm (r:Ou T):Ic (.bl true) r=r:=rfl
theorem iC (r:Ou T):Ic (.bl false) r=.ok (.bl false):=rfl
theorem sP (r:Ou T):orT (.bl true) r=.ok (.bl true):=rfl
theorem ll (r:Ou T):orT (.bl false) r=r:=rfl
theorem dE {α:Type} (r s:Ou α):vR (.bl true) r s=r:=rfl
theorem dS {α:Type} (r s:Ou α):vR (.bl false) r s=s:=rfl
theorem zf (r:Ou T):chT (some true) r=r:=rfl
theorem yV (r:Ou T):chT (some false) r=.ok (.bl false):=rfl
theorem gQ (b:Bool):KN (.bl b)=.ok (.bl (!b)):=rfl
theorem Jt (b:Int):Kc (.int b)=.ok (.int (-b)):=rfl
theorem az (b:Bool):ofB (some b)=.ok (.bl b):=rfl
theorem tL (t:Ty) (i:Int):x8 t (.int i)=.ok (.bl (jG t (.int i))):=rfl
theorem xl (t:Ty) (i:Bool):x8 t (.bl i)=.ok (.bl (jG t (.bl i))):=rfl
theorem ug (t:Ty):x8 t .non=.ok (.bl (jG t .non)):=rfl
theorem uu (t:Ty) (x:Str):x8 t (.str x)=.ok (.bl (jG t (.str x))):=rfl
theorem jo (t:Ty) (x:List T):x8 t (.tup x)=.ok (.bl (jG t (.tup x))):=rfl
theorem pK (t:Ty) (x:List T):x8 t (.lst x)=.ok (.bl (jG t (.lst x))):=rfl
theorem kb (xs:List T):K2 (.lst xs)=.ok xs:=rfl
theorem Lf (xs:List T):enT (.lst xs)=.ok (lM 0 xs):=rfl
theorem fG (lv mv:Nat) (d:T):dh ⟨false,lv,mv⟩ (.ok (.rt d))=.ok d:=rfl
theorem bj (md:Md) (b:Bool):dh md (.ok (.rt (.bl b)))=.ok (.bl b):=by cases md; rename_i s _ _; cases s <;> rfl
theorem mR (md:Md) (b:Int):dh md (.ok (.rt (.int b)))=.ok (.int b):=by cases md; rename_i s _ _; cases s <;> rfl
theorem E4 (md:Md) (τ:aC) (own:Own):dh md (.ok (.nx τ own))=.ok .non:=rfl
theorem aO (μ:Nat→Md) (need:List Nat) (own:Own) (e:E) (x:T):uo ⟨μ,need,0⟩ own e x=.ok (.rt x):=if_pos (.inl rfl)
theorem aq (g:Nat→Nat→Bool):dn g []=[]:=rfl
theorem bf (g:Nat→Nat→Bool) (i lv:Nat) (r:Own):dn g ((i,lv) :: r)=if g i lv then (if lv=2∧g i 1=false then (i,1) :: dn g r else dn g r) else (i,lv) :: dn g r:=by rw [dn]
theorem jB (f:List T→T):iD f []=.ok (f []):=rfl
theorem jP (f:List T→T) (a:T):iD f [a]=.ok (f [a]):=rfl
theorem jK (f:List T→T) (a b:T):iD f [a,b]=.ok (f [a,b]):=rfl
theorem yX (f:List T→T) (a b c:T):iD f [a,b,c]=.ok (f [a,b,c]):=rfl
theorem zl (f:List T→T) (a b c d:T):iD f [a,b,c,d]=.ok (f [a,b,c,d]):=rfl
theorem uP (f:List T→T) (a b c d e:T):iD f [a,b,c,d,e]=.ok (f [a,b,c,d,e]):=rfl
theorem pD (i:Int):eqK (.int i):=⟨rfl,Nat.zero_le _⟩
theorem bP (i j:Int):zC .eq (.int i) (.int j)=some (decide (i=j)):=by
 show (if eqK (.int i)∧eqK (.int j) then some (eqT (.int i) (.int j)) else none)=_
 rw [if_pos ⟨pD i,pD j⟩,eqT,Bool.beq_eq_decide_eq]
theorem dP (i j:Int):zC .ne (.int i) (.int j)=some (!decide (i=j)):=by
 show (if eqK (.int i)∧eqK (.int j) then some (!eqT (.int i) (.int j)) else none)=_
 rw [if_pos ⟨pD i,pD j⟩,eqT,Bool.beq_eq_decide_eq]
theorem nB (i j:Int):zC .lt (.int i) (.int j)=some (decide (i < j)):=rfl
theorem eE (i j:Int):zC .le (.int i) (.int j)=some (decide (i≤j)):=rfl
theorem om (i j:Int):zC .gt (.int i) (.int j)=some (decide (j < i)):=rfl
theorem kI (i j:Int):zC .ge (.int i) (.int j)=some (decide (j≤i)):=rfl
theorem ji (i j:Int):z2 .add (.int i) (.int j)=.ok (.int (i + j)):=rfl
theorem oy (i j:Int):z2 .sub (.int i) (.int j)=.ok (.int (i - j)):=rfl
theorem gR {i j:Int} (h:0 < j):z2 .mod (.int i) (.int j)=.ok (.int (i % j)):=by
 show (if j ≠ 0 then Ou.ok (T.int (i.fmod j)) else .bad)=_
 rw [if_pos (by omega),Int.fmod_eq_emod_of_nonneg i (by omega)]
theorem qL {xs ys:List T} (h:xs.length + ys.length < ai):z2 .add (.lst xs) (.lst ys)=.ok (.lst (xs++ys)):=by
 show (if xs.length + ys.length < ai then Ou.ok (T.lst (xs++ys)) else .bad)=_
 rw [if_pos h]
theorem yZ {α:Type} {xs:List α} {k:Nat} {d:α} (h:xs[k]?=some d):L2.atI xs (k:Int)=some d:=by
 have hl:=(List.getElem?_eq_some_iff.mp h).1
 unfold L2.atI L2.ixN
 rw [if_pos (by omega),if_pos (by omega)]
 simpa using h
theorem dF {xs:List T} {k:Nat} {d:T} (h:xs[k]?=some d):zI (.lst xs) (.int (k:Nat))=.ok d:=by
 rw [zI,yZ h]
theorem Ct {xs:List T} {k:Nat} {d:T} (h:xs[k]?=some d):zI (.tup xs) (.int (k:Nat))=.ok d:=by
 rw [zI,yZ h]
theorem gX (x0:T) (xs:List T):zI (.lst (x0 :: xs)) (.int 0)=.ok x0:=dF (k:=0) rfl
theorem sU (x0:T) (xs:List T):zI (.tup (x0 :: xs)) (.int 0)=.ok x0:=Ct (k:=0) rfl
theorem oG (x0 x1:T) (xs:List T):zI (.lst (x0 :: x1 :: xs)) (.int 1)=.ok x1:=dF (k:=1) rfl
theorem zh (x0 x1:T) (xs:List T):zI (.tup (x0 :: x1 :: xs)) (.int 1)=.ok x1:=Ct (k:=1) rfl
theorem oF (x0 x1 x2:T) (xs:List T):zI (.lst (x0 :: x1 :: x2 :: xs)) (.int 2)=.ok x2:=dF (k:=2) rfl
theorem sM (x0 x1 x2 x3:T) (xs:List T):zI (.lst (x0 :: x1 :: x2 :: x3 :: xs)) (.int 3)=.ok x3:=dF (k:=3) rfl
theorem FO (x0 x1 x2 x3 x4:T) (xs:List T):zI (.lst (x0 :: x1 :: x2 :: x3 :: x4 :: xs)) (.int 4)=.ok x4:=dF (k:=4) rfl
noncomputable def big:Nat:=10 ^ 1000
theorem qf {n:Nat} (h:n < big):n.log2 < 9000:=by
 rcases Nat.eq_zero_or_pos n with h0 | hp
 · subst h0; decide
 · refine (Nat.log2_lt (by omega)).mpr (Nat.lt_of_lt_of_le h ?_)
   unfold big
   exact Nat.le_of_ble_eq_true (by decide +kernel)
theorem ic {n:Nat} (h:n < 10 ^ 200):n < big:=Nat.lt_of_lt_of_le h (Nat.pow_le_pow_right (by decide) (by decide))
theorem BU {j:Int} (h0:j ≠ 0) (h:j.natAbs < big):bp j:=⟨h0,qf h⟩
theorem mulOk_of {i j:Int} (h:i.natAbs < big) (h':j.natAbs < big):aZ i j:=.inr (.inr ⟨Nat.lt_of_lt_of_le (qf h) (by decide),Nat.lt_of_lt_of_le (qf h') (by decide)⟩)
theorem fD {i j:Int} (h:j.natAbs < 2 ^ 64):aZ i j:=.inr (.inl (by
 rcases Nat.eq_zero_or_pos j.natAbs with h0 | hp
 · rw [h0]; decide
 · exact (Nat.log2_lt (by omega)).mpr h))
theorem ei {i j:Int} (h:i.natAbs < 2 ^ 64):aZ i j:=.inl (by
 rcases Nat.eq_zero_or_pos i.natAbs with h0 | hp
 · rw [h0]; decide
 · exact (Nat.log2_lt (by omega)).mpr h)
theorem jE {i j:Int} (h:0 < j) (h':j.natAbs < big):z2 .fdiv (.int i) (.int j)=.ok (.int (i / j)):=by
 show (if bp j then Ou.ok (T.int (i.fdiv j)) else .bad)=_
 rw [if_pos (BU (by omega) h'),Int.fdiv_eq_ediv_of_nonneg i (by omega)]
theorem fq {i j:Int} (h:aZ i j):z2 .mul (.int i) (.int j)=.ok (.int (i * j)):=by
 show (if aZ i j then Ou.ok (T.int (i * j)) else .bad)=_
 rw [if_pos h]
theorem GJ {i:Int} {n:Nat} (h:n≤1000000) (h':i.natAbs < 2 ^ 64):z2 .pow (.int i) (.int (n:Int))=.ok (.int (i ^ n)):=by
 show (if 0≤(n:Int)∧(n:Int)≤1000000∧i.natAbs < 2 ^ 64 then Ou.ok (T.int (i ^ (n:Int).toNat)) else .bad)=_
 rw [if_pos ⟨by omega,by omega,h'⟩]
 rfl
theorem tJ (i:Int):zB .abs [.int i]=.ok (.int (i.natAbs:Int)):=by
 show Ou.ok (T.int (if i < 0 then -i else i))=_
 congr 2
 split <;> omega
theorem dz (xs:List T):zB .len [.lst xs]=.ok (.int (xs.length:Nat)):=rfl
theorem ja (xs:List T):zB .len [.tup xs]=.ok (.int (xs.length:Nat)):=rfl
theorem pF (b:Bool):zB .int [.bl b]=.ok (.int (if b then 1 else 0)):=rfl
theorem sJ (xs:List T):zB .list [.lst xs]=.ok (.lst xs):=rfl
theorem wA (xs:List T):zB .tuple [.lst xs]=.ok (.tup xs):=rfl
theorem Cf {α:Type} (xs:List α) (f:α→Bool):tx (xs.map fun x=>.bl (f x))=some (xs.all f):=by
 induction xs with
 | nil=>rfl
 | cons x xs ih=>simp only [List.map_cons,tx,ih,Option.map_some,List.all_cons]
theorem ou {α:Type} (xs:List α) (f:α→Bool):zB .all [.lst (xs.map fun x=>.bl (f x))]=.ok (.bl (xs.all f)):=by
 show ofB (tx _)=_
 rw [Cf]; rfl
theorem bC {α:Type} (xs:List α) {g:α→T} {f:T→Ou (Option T)} {k:α→T} (h:∀ x ∈ xs,f (g x)=.ok (some (k x))):dm f (xs.map g)=.ok (xs.map k):=by
 induction xs with
 | nil=>rfl
 | cons x xs ih=>
   rw [List.map_cons,dm,h x (List.mem_cons_self ..),ih fun y hy=>h y (List.mem_cons_of_mem _ hy)]
   rfl
theorem jq (xs:List T) {f:T→Ou (Option T)} {k:T→T} (h:∀ x ∈ xs,f x=.ok (some (k x))):dm f xs=.ok (xs.map k):=by
 have:=bC (g:=id) xs h
 rwa [List.map_id] at this
theorem De (a b:Nat) (h:b ≠ 0):Nat.gcd b (a % b)=Nat.gcd a b:=by
 rw [Nat.gcd_comm a b,Nat.gcd_rec b a,Nat.gcd_comm]
end Sv
namespace Sv
open PySem PySem.Spec L2
open Ev (D aZ bp ai)
noncomputable def BV (r:FlT) (k:aC→Own→Ou FlT):Ou FlT:=match r with
 | .nx τ own=>k τ own
 | .ct τ own=>k τ own
 | .bk τ own=>.ok (.nx τ own)
 | .rt d=>.ok (.rt d)
theorem cR (τ:aC) (own:Own) (k:aC→Own→Ou FlT):BV (.nx τ own) k=k τ own:=rfl
theorem cL (f:T→aC→Own→Ou FlT) (τ:aC) (own:Own):cT f [] τ own=.ok (.nx τ own):=by rw [cT]
theorem bM (f:T→aC→Own→Ou FlT) (x:T) (xs:List T) (τ:aC) (own:Own):cT f (x :: xs) τ own=(f x τ own).bind fun r=>BV r (cT f xs):=by
 rw [cT]
 all_goals first | rfl | (congr 1; funext r; cases r <;> rfl) | (congr 1; done)
theorem vV (c:aC→Ou T) (g:Nat→Nat→Bool) (f:aC→Own→Ou FlT) (n:Nat) (τ:aC) (own:Own) :
   iH c g f (n + 1) τ own=(c τ).bind fun x=>vR x ((f τ (dn g own)).bind fun r=>BV r (iH c g f n)) (.ok (.nx τ (dn g own))):=by
 rw [iH]
 all_goals first | rfl | (congr 1; done) | (congr 1; funext x; cases x <;> first | rfl | (rename_i z; cases z <;> first | rfl | (show Ou.bind _ _=Ou.bind _ _; congr 1; funext r; cases r <;> rfl)))
theorem wZ (Ψ ΨM:FnT) (X:Fx) (n:Nat) (c:E) (body:List S) (g:Nat→Nat→Bool) (mkE:T→T→Option T→aC)
   (hc:∀ (a b:Nat) r,yE Ψ c (mkE (.int a) (.int b) r)=.ok (.bl (decide (b ≠ 0))))
   (hb:∀ (a b:Nat) r,b ≠ 0→ySs Ψ ΨM X n body (mkE (.int a) (.int b) r) []=.ok (.nx (mkE (.int b) (.int ((a % b:Nat):Int)) (some (.int ((a % b:Nat):Int)))) [])) :
   ∀ (m a b:Nat) (r:Option T),b < m→∃ r',iH (HX Ψ c) g (Ia Ψ ΨM X n body) m (mkE (.int a) (.int b) r) []=.ok (.nx (mkE (.int (Nat.gcd a b:Nat)) (.int 0) r') []):=by
 intro m
 induction m with
 | zero=>intro a b r h; omega
 | succ m ih=>
   intro a b r h
   rw [vV,DM,hc,Ou.aa]
   by_cases hb0:b=0
   · subst hb0
     exact ⟨r,by rw [Nat.gcd_zero_right]; rfl⟩
   · obtain ⟨r',e⟩:=ih b (a % b) (some (.int ((a % b:Nat):Int))) (by have:=Nat.mod_lt a (show 0 < b by omega); omega)
     refine ⟨r',?_⟩
     rw [decide_eq_true hb0,dE,aq,FC,hb a b r hb0,Ou.aa,cR,e,De a b hb0]
noncomputable def ot:List S:=[.set (.nm 0) (.bi .abs [(.var 0)]),.set (.nm 1) (.bi .abs [(.var 1)]),.while (.cmp .gt (.var 1) (.cI 0)) [.set (.nm 2) (.op .mod (.var 0) (.var 1)),.set (.nm 0) (.var 1),.set (.nm 1) (.var 2)],.ret (.var 0)]
noncomputable def qx:List S:=[.set (.nm 2) (.bi .abs [(.var 0)]),.set (.nm 3) (.bi .abs [(.var 1)]),.while (.cmp .ne (.var 3) (.cI 0)) [.set (.nm 4) (.op .mod (.var 2) (.var 3)),.set (.nm 2) (.var 3),.set (.nm 3) (.var 4)],.ret (.var 2)]
theorem zK (a b:Nat) (h:b ≠ 0):z2 .mod (.int (a:Int)) (.int (b:Int))=.ok (.int ((a % b:Nat):Int)):=by
 rw [gR (by omega)]; rfl
theorem xX (Ψ ΨM:FnT) (μ:Nat→Md) (sc:Bool) (a b:Int):mkT Ψ ΨM μ ⟨sc,0,0⟩ [] ot 2 3 [.int a,.int b]=.ok (.int (Int.gcd a b:Nat)):=by
 obtain ⟨r',e⟩:=wZ Ψ ΨM ⟨μ,[],0⟩ (aI [.int a,.int b]) (.cmp .gt (.var 1) (.cI 0)) [.set (.nm 2) (.op .mod (.var 0) (.var 1)),.set (.nm 0) (.var 1),.set (.nm 1) (.var 2)] (gU μ 2 (.cmp .gt (.var 1) (.cI 0))) (fun x y r=>[some x,some y,r])
   (fun a b r=>by
     simp only [ag,aM,bt,az,Ou.aa,ax,om,List.getElem?_cons_zero,List.getElem?_cons_succ]
     congr 2
     exact decide_eq_decide.mpr (by omega))
   (fun a b r hb=>by simp only [ag,cJ,ba,aD,ah,qe,tH,gq,mD,aV,aA,aq,Ou.aa,ax,aw.eq_def,cm,List.getElem?_cons_zero,List.getElem?_cons_succ,List.set_cons_zero,List.set_cons_succ,List.contains_nil,Option.isSome_some,Bool.and_true,Bool.false_eq_true,if_false,Nat.min_def,and_true,zK a b hb]) (aI [.int a,.int b]) a.natAbs b.natAbs none (by simp only [aI,EW]; omega)
 show dh ⟨sc,0,0⟩ (ySs Ψ ΨM ⟨μ,[],0⟩ _ ot [some (.int a),some (.int b),none] [])=_
 simp only [ot,ag,bA,af,ae,ba,vI,ah,yP,xb,aV,aA,aq,Ou.aa,ax,aw.eq_def,cm,tJ,List.getElem?_cons_zero,List.getElem?_cons_succ,List.set_cons_zero,List.set_cons_succ,List.contains_nil,Option.isSome_some,Bool.and_true,Bool.false_eq_true,if_false,Nat.min_def,and_true]
 simp only [e,ag,aJ,ah,aV,aB,mR,aO,Ou.aa,Ou.de,ax,List.getElem?_cons_zero]
 rfl
theorem AH (Ψ ΨM:FnT) (μ:Nat→Md) (sc:Bool) (a b:Int):mkT Ψ ΨM μ ⟨sc,0,0⟩ [] qx 2 5 [.int a,.int b]=.ok (.int (Int.gcd a b:Nat)):=by
 obtain ⟨r',e⟩:=wZ Ψ ΨM ⟨μ,[],0⟩ (aI [.int a,.int b]) (.cmp .ne (.var 3) (.cI 0)) [.set (.nm 4) (.op .mod (.var 2) (.var 3)),.set (.nm 2) (.var 3),.set (.nm 3) (.var 4)] (gU μ 2 (.cmp .ne (.var 3) (.cI 0))) (fun x y r=>[some (.int a),some (.int b),some x,some y,r])
   (fun a b r=>by
     simp only [ag,aM,bt,az,Ou.aa,ax,dP,List.getElem?_cons_zero,List.getElem?_cons_succ]
     congr 2
     rw [← decide_not]
     exact decide_eq_decide.mpr (by omega))
   (fun a b r hb=>by simp only [ag,cJ,ba,aD,ah,qe,tH,gq,mD,aV,aA,aq,Ou.aa,ax,aw.eq_def,cm,List.getElem?_cons_zero,List.getElem?_cons_succ,List.set_cons_zero,List.set_cons_succ,List.contains_nil,Option.isSome_some,Bool.and_true,Bool.false_eq_true,if_false,Nat.min_def,and_true,zK a b hb]) (aI [.int a,.int b]) a.natAbs b.natAbs none (by simp only [aI,EW]; omega)
 show dh ⟨sc,0,0⟩ (ySs Ψ ΨM ⟨μ,[],0⟩ _ qx [some (.int a),some (.int b),none,none,none] [])=_
 simp only [qx,ag,bA,af,ae,ba,vI,ah,yP,xb,aV,aA,aq,Ou.aa,ax,aw.eq_def,cm,tJ,List.getElem?_cons_zero,List.getElem?_cons_succ,List.set_cons_zero,List.set_cons_succ,List.contains_nil,Option.isSome_some,Bool.and_true,Bool.false_eq_true,if_false,Nat.min_def,and_true]
 simp only [e,ag,aJ,ah,aV,aB,mR,aO,Ou.aa,Ou.de,ax,List.getElem?_cons_zero,List.getElem?_cons_succ]
 rfl
noncomputable def uv:List S:=[.ite (.cmp .lt (.var 1) (.bi .len [(.var 0)])) [.ret (.ix (.var 0) (.var 1))] [],.ret (.cI 0)]
noncomputable def inT (ns:List Int):T:=.lst (ns.map .int)
theorem EA (Ψ ΨM:FnT) (μ:Nat→Md) (sc:Bool) (ns:List Int) (k:Nat):∃ c:Int,mkT Ψ ΨM μ ⟨sc,0,0⟩ [] uv 2 2 [inT ns,.int (k:Nat)]=.ok (.int c):=by
 show ∃ c:Int,dh ⟨sc,0,0⟩ (ySs Ψ ΨM ⟨μ,[],0⟩ _ uv [some (inT ns),some (.int (k:Nat))] [])=_
 unfold inT
 by_cases h:(k:Int) < ((ns.map T.int).length:Nat)
 · have hk':k < ns.length:=by rw [List.length_map] at h; omega
   have g:zI (.lst (ns.map .int)) (.int (k:Nat))=.ok (.int ns[k]):=dF (by rw [List.getElem?_map,List.getElem?_eq_getElem hk']; rfl)
   exact ⟨ns[k],by simp only [uv,ag,bt,bX,bA,af,ae,aJ,bR,aD,ah,aB,dE,az,mR,aO,aq,Ou.aa,ax,nB,dz,List.getElem?_cons_zero,List.getElem?_cons_succ,decide_true,h,decide_true,g]⟩
 · exact ⟨0,by simp only [uv,ag,aM,bt,bX,bA,af,ae,aJ,bR,aD,ah,aV,aB,dS,az,mR,aO,aq,Ou.aa,ax,nB,dz,List.getElem?_cons_zero,List.getElem?_cons_succ,decide_false,h,decide_false]⟩
theorem BQ (i:Int) (n:Nat) (h':i.natAbs < 2 ^ 64:=by decide) (h:n≤1000000:=by decide):z2 .pow (.int i) (.int (n:Int))=.ok (.int (i ^ n)):=GJ h h'
theorem p18:z2 .pow (.int 10) (.int 18)=.ok (.int (10 ^ 18)):=BQ 10 18
theorem p40:z2 .pow (.int 10) (.int 40)=.ok (.int (10 ^ 40)):=BQ 10 40
noncomputable def Dig:List Int→List Int→Prop
 | [],[]=>True
 | r :: rs,b :: bs=>(0≤r∧r < b)∧Dig rs bs
 | _,_=>False
theorem Dig.length:∀ {rs bs:List Int},Dig rs bs→rs.length=bs.length
 | [],[],_=>rfl
 | _ :: _,_ :: _,h=>congrArg (· + 1) h.2.length
theorem Kb (l:List T) (d:T):(l++[d]).length=l.length + 1:=by rw [List.length_append,List.length_singleton]
theorem rg {l:List T} {d:T} (h:l.length < ai):zM .append l [d]=some (l++[d]):=by
 show (if l.length < ai then some (l++[d]) else none)=_
 rw [if_pos h]
noncomputable def zE:List S:=[.mth .append (.var 2) [(.op .mod (.var 0) (.var 3))],.set (.nm 0) (.op .fdiv (.var 0) (.var 3))]
noncomputable def zJ:List S:=[.set (.nm 5) (.op .mod (.op .add (.op .add (.op .add (.op .mul (.var 0) (.cI 48271)) (.op .mul (.op .mul (.var 4) (.var 4)) (.cI 69621))) (.op .mul (.var 4) (.cI 16807))) (.cI 11)) (.cI 2147483647)),.mth .append (.var 2) [(.op .mod (.op .fdiv (.op .mod (.op .add (.op .add (.op .mul (.var 5) (.cI 40692)) (.var 0)) (.op .mul (.cI 31) (.var 4))) (.cI 2147483399)) (.cI 7)) (.var 3))]]
noncomputable def kQ:List S:=[.set (.nm 2) (.lst []),.ite (.cmp .ge (.bi .abs [(.var 0)]) (.op .pow (.cI 10) (.cI 18))) [.for (.nm 3) (.seq (.var 1)) zE,.ret (.var 2)] [],.for (.tp [4,3]) (.enu (.var 1)) zJ,.ret (.var 2)]
theorem sE (Ψ ΨM:FnT) (μ:Nat→Md) (n:Nat):∀ (bs:List Int) (c:Int) (x r3 r4 r5:Option T) (row:List T),(∀ b ∈ bs,0 < b∧b.natAbs < big)→row.length + bs.length < ai →
   ∃ (rs:List Int) (c':Int) (r3':Option T),Dig rs bs∧cT (cn Ψ ΨM ⟨μ,[2],0⟩ n (.nm 3) zE) (bs.map T.int) [some (.int c),x,some (.lst row),r3,r4,r5] [(2,1)]
     = .ok (.nx [some (.int c'),x,some (.lst (row++rs.map T.int)),r3',r4,r5] [(2,1)])
 | [],c,x,r3,r4,r5,row,_,_=>⟨[],c,r3,trivial,by simp only [List.map_nil,cL,List.append_nil]⟩
 | b :: bs,c,x,r3,r4,r5,row,hb,hl=>by
   obtain ⟨h0,h1⟩:=hb b (by simp)
   simp only [List.length_cons] at hl
   obtain ⟨rs,c',r3',dg,e⟩:=sE Ψ ΨM μ n bs (c / b) x (some (.int b)) r4 r5 (row++[.int (c % b)]) (fun y hy=>hb y (by simp [hy])) (by rw [Kb]; omega)
   refine ⟨(c % b) :: rs,c',r3',⟨⟨Int.emod_nonneg _ (by omega),Int.emod_lt_of_pos _ h0⟩,dg⟩,?_⟩
   have hlt:row.length < ai:=by omega
   rw [List.map_cons,bM]
   have e1:cn Ψ ΨM ⟨μ,[2],0⟩ n (.nm 3) zE (.int b) [some (.int c),x,some (.lst row),r3,r4,r5] [(2,1)]=.ok (.nx [some (.int (c / b)),x,some (.lst (row++[.int (c % b)])),some (.int b),r4,r5] [(2,1)]):=by
     simp only [zE,ag,cJ,af,ae,ba,nO,aD,ah,gq,Bu,aV,aA,aH,i9,aq,bf,Ou.aa,ax,aw.eq_def,cm,frg,cg,fO,nZ,gts,bQ,tgN,qO,cG,List.getElem?_cons_zero,List.getElem?_cons_succ,List.set_cons_zero,List.set_cons_succ,List.contains_cons,List.contains_nil,List.lookup_cons,Option.getD_some,Option.isSome_some,Bool.and_true,Bool.and_false,Bool.or_false,Bool.false_eq_true,if_true,if_false,beq_self_eq_true,Nat.reduceBEq,Nat.reduceLT,Nat.min_def,Nat.lt_irrefl,decide_false,and_true,and_false,Nat.reduceEqDiff,gR h0,jE h0 h1,rg hlt]
   rw [e1,Ou.aa,cR,e]
   simp only [List.append_assoc,List.cons_append,List.nil_append,List.map_cons]
theorem sF (Ψ ΨM:FnT) (μ:Nat→Md) (n:Nat):∀ (bs:List Int) (k:Nat) (c:Int) (x r3 r4 r5:Option T) (row:List T),(∀ b ∈ bs,0 < b∧b.natAbs < big)→row.length + bs.length < ai→k + bs.length < ai →
   ∃ (rs:List Int) (r3' r4' r5':Option T),Dig rs bs∧cT (cn Ψ ΨM ⟨μ,[2],0⟩ n (.tp [4,3]) zJ) (lM k (bs.map T.int)) [some (.int c),x,some (.lst row),r3,r4,r5] [(2,1)]
     = .ok (.nx [some (.int c),x,some (.lst (row++rs.map T.int)),r3',r4',r5'] [(2,1)])
 | [],k,c,x,r3,r4,r5,row,_,_,_=>⟨[],r3,r4,r5,trivial,by simp only [List.map_nil,lM,cL,List.append_nil]⟩
 | b :: bs,k,c,x,r3,r4,r5,row,hb,hl,hk=>by
   obtain ⟨h0,h1⟩:=hb b (by simp)
   simp only [List.length_cons] at hl hk
   have hlt:row.length < ai:=by omega
   have lm:ai=1000000:=rfl
   have kk:(k:Int) < 1000000:=by omega
   have k2:(k:Int) * (k:Int) < 1000000 * 1000000:=by
     rcases Nat.eq_zero_or_pos k with z | z
     · subst z; decide
     · exact Int.mul_lt_mul kk (by omega) (by omega) (by decide)
   have k3:(0:Int)≤(k:Int) * (k:Int):=Int.mul_nonneg (by omega) (by omega)
   have m1:z2 .mul (.int c) (.int 48271)=.ok (.int (c * 48271)):=fq (fD (by decide))
   have m2:z2 .mul (.int (k:Int)) (.int (k:Int))=.ok (.int ((k:Int) * (k:Int))):=fq (fD (by omega))
   have m3:z2 .mul (.int ((k:Int) * (k:Int))) (.int 69621)=.ok (.int ((k:Int) * (k:Int) * 69621)):=fq (fD (by decide))
   have m4:z2 .mul (.int (k:Int)) (.int 16807)=.ok (.int ((k:Int) * 16807)):=fq (fD (by decide))
   have m5:∀ z:Int,z2 .mul (.int z) (.int 40692)=.ok (.int (z * 40692)):=fun z=>fq (fD (by decide))
   have m6:z2 .mul (.int 31) (.int (k:Int))=.ok (.int (31 * (k:Int))):=fq (ei (by decide))
   have m7:∀ z:Int,z2 .mod (.int z) (.int 2147483647)=.ok (.int (z % 2147483647)):=fun z=>gR (by decide)
   have m8:∀ z:Int,z2 .mod (.int z) (.int 2147483399)=.ok (.int (z % 2147483399)):=fun z=>gR (by decide)
   have m9:∀ z:Int,z2 .fdiv (.int z) (.int 7)=.ok (.int (z / 7)):=fun z=>jE (by decide) (ic (by decide))
   generalize hv:((((c * 48271 + (k:Int) * (k:Int) * 69621 + (k:Int) * 16807 + 11) % 2147483647 * 40692 + c + 31 * (k:Int)) % 2147483399 / 7) % b)=v
   obtain ⟨rs,r3',r4',r5',dg,e⟩:=sF Ψ ΨM μ n bs (k + 1) c x (some (.int b)) (some (.int (k:Int))) (some (.int ((c * 48271 + (k:Int) * (k:Int) * 69621 + (k:Int) * 16807 + 11) % 2147483647))) (row++[.int v]) (fun y hy=>hb y (by simp [hy])) (by rw [Kb]; omega) (by omega)
   refine ⟨v :: rs,r3',r4',r5',⟨⟨by rw [← hv]; exact Int.emod_nonneg _ (by omega),by rw [← hv]; exact Int.emod_lt_of_pos _ h0⟩,dg⟩,?_⟩
   rw [List.map_cons,lM,bM]
   have e1:cn Ψ ΨM ⟨μ,[2],0⟩ n (.tp [4,3]) zJ (.tup [.int (k:Nat),.int b]) [some (.int c),x,some (.lst row),r3,r4,r5] [(2,1)]=.ok (.nx [some (.int c),x,some (.lst (row++[.int v])),some (.int b),some (.int (k:Int)),some (.int ((c * 48271 + (k:Int) * (k:Int) * 69621 + (k:Int) * 16807 + 11) % 2147483647))] [(2,1)]):=by
     simp only [zJ,ag,aM,cJ,af,ae,ba,nO,aD,ah,gq,mD,aV,aA,aH,i9,aq,bf,Ou.aa,ax,aw.eq_def,mr,cm,frg,cg,fO,nZ,gts,bQ,tgN,qO,ji,cG,List.getElem?_cons_zero,List.getElem?_cons_succ,List.set_cons_zero,List.set_cons_succ,List.contains_cons,List.contains_nil,List.lookup_cons,Option.getD_some,Option.isSome_some,Bool.and_true,Bool.and_false,Bool.or_false,Bool.false_eq_true,if_true,if_false,beq_self_eq_true,Nat.reduceBEq,Nat.reduceLT,Nat.min_def,Nat.lt_irrefl,decide_false,and_true,and_false,Nat.reduceEqDiff,m1,m2,m3,m4,m5,m6,m7,m8,m9,gR h0,rg hlt,hv]
   rw [e1,Ou.aa,cR,e]
   simp only [List.append_assoc,List.cons_append,List.nil_append,List.map_cons]
theorem xV (Ψ ΨM:FnT) (μ:Nat→Md) (c:Int) (bs:List Int) (hb:∀ b ∈ bs,0 < b∧b.natAbs < 10 ^ 200) (hl:bs.length < ai):∃ rs:List Int,Dig rs bs∧mkT Ψ ΨM μ ⟨false,0,0⟩ [2] kQ 2 6 [.int c,inT bs]=.ok (inT rs):=by
 have hb':∀ b ∈ bs,0 < b∧b.natAbs < big:=fun b h=>⟨(hb b h).1,ic (hb b h).2⟩
 show ∃ rs:List Int,Dig rs bs∧dh ⟨false,0,0⟩ (ySs Ψ ΨM ⟨μ,[2],0⟩ _ kQ [some (.int c),some (.lst (bs.map .int)),none,none,none,none] [])=.ok (.lst (rs.map .int))
 by_cases h:(10:Int) ^ 18≤(c.natAbs:Int)
 · obtain ⟨rs,c',r3',dg,e⟩:=sE Ψ ΨM μ (aI [.int c,inT bs]) bs c (some (.lst (bs.map T.int))) none none none [] hb' (by simpa using hl)
   refine ⟨rs,dg,?_⟩
   simp only [kQ,ag,aM,cJ,bt,dq,bA,af,ae,cb,ba,bR,gW,aD,ah,ip,iN,pC,aV,aA,dE,az,kb,aq,bf,jB,Ou.aa,ax,aw.eq_def,cm,fO,nX,gts,bQ,dI,kI,tJ,List.getElem?_cons_zero,List.getElem?_cons_succ,List.set_cons_zero,List.set_cons_succ,List.contains_cons,List.contains_nil,List.all_nil,Option.isSome_some,Bool.and_true,Bool.and_false,Bool.or_false,Bool.false_eq_true,if_true,if_false,beq_self_eq_true,Nat.reduceBEq,Nat.reduceLT,Nat.min_def,Nat.lt_irrefl,decide_true,decide_false,and_true,and_false,reduceCtorEq,Nat.reduceEqDiff,Nat.reduceLeDiff,p18,h,decide_true]
   simp only [e,ag,aJ,ah,aV,aB,fG,aO,Ou.aa,Ou.de,ax,List.getElem?_cons_zero,List.getElem?_cons_succ,List.nil_append]
 · obtain ⟨rs,r3',r4',r5',dg,e⟩:=sF Ψ ΨM μ (aI [.int c,inT bs]) bs 0 c (some (.lst (bs.map T.int))) none none none [] hb' (by simpa using hl) (by simpa using hl)
   refine ⟨rs,dg,?_⟩
   simp only [kQ,ag,aM,cJ,bt,dq,bA,af,ae,cb,FJ,ba,bR,gW,aD,ah,ip,iN,pC,aV,aA,dS,az,kb,Lf,aq,bf,jB,Ou.aa,ax,aw.eq_def,cm,fO,nX,gts,bQ,dI,kI,tJ,List.getElem?_cons_zero,List.getElem?_cons_succ,List.set_cons_zero,List.set_cons_succ,List.contains_cons,List.contains_nil,List.all_nil,Option.isSome_some,Bool.and_true,Bool.and_false,Bool.or_false,Bool.false_eq_true,if_true,if_false,beq_self_eq_true,Nat.reduceBEq,Nat.reduceLT,Nat.min_def,Nat.lt_irrefl,decide_true,decide_false,and_true,and_false,reduceCtorEq,Nat.reduceEqDiff,Nat.reduceLeDiff,p18,h,decide_false]
   simp only [e,ag,aJ,ah,aV,aB,fG,aO,Ou.aa,Ou.de,ax,List.getElem?_cons_zero,List.getElem?_cons_succ,List.nil_append]
structure Low (t b:Int):Prop where
 pos:1≤b
 cop:Int.gcd t b=1
theorem EH {t b:Int} (hb:0 < b):Low (t / (Int.gcd t b:Int)) (b / (Int.gcd t b:Int))∧t / (Int.gcd t b:Int) * b=t * (b / (Int.gcd t b:Int)):=by
 have hg:0 < Int.gcd t b:=Int.gcd_pos_of_ne_zero_right _ (by omega)
 obtain ⟨t',ht⟩:=Int.gcd_dvd_left t b
 obtain ⟨b',hb'⟩:=Int.gcd_dvd_right t b
 have g0:(Int.gcd t b:Int) ≠ 0:=by omega
 have e1:t / (Int.gcd t b:Int)=t':=by rw [Int.ediv_eq_iff_eq_mul_right g0 (Int.gcd_dvd_left t b)]; exact ht
 have e2:b / (Int.gcd t b:Int)=b':=by rw [Int.ediv_eq_iff_eq_mul_right g0 (Int.gcd_dvd_right t b)]; exact hb'
 rw [e1,e2]
 refine ⟨⟨?_,?_⟩,?_⟩
 · have:0 < (Int.gcd t b:Int) * b':=by rw [← hb']; exact hb
   have:0 < b':=by
     rcases Int.lt_or_le 0 b' with h | h
     · exact h
     · have:=Int.mul_nonpos_of_nonneg_of_nonpos (show (0:Int)≤(Int.gcd t b:Int) by omega) h
       omega
   omega
 · have:=Int.gcd_mul_left (Int.gcd t b:Int) t' b'
   rw [← ht,← hb'] at this
   simp only [Int.natAbs_natCast] at this
   have h2:Int.gcd t b * 1=Int.gcd t b * Int.gcd t' b':=by omega
   exact (Nat.eq_of_mul_eq_mul_left hg h2).symm
 · generalize hG:(Int.gcd t b:Int)=G at *
   calc t' * b=t' * (G * b'):=by rw [← hb']
     _=(G * t') * b':=by rw [← Int.mul_assoc,Int.mul_comm t' G]
     _=t * b':=by rw [← ht]
noncomputable def lV (t b:Int):T:=.tup [.int t,.int b]
noncomputable def wF (Ψ:FnT) (dv:Nat):Prop:=∀ a b:Int,Ψ dv [.int a,.int b]=.ok (.int (Int.gcd a b:Nat))
theorem I0 (t b:Int) (hb:b ≠ 0):Int.gcd t b≤b.natAbs:=Nat.le_of_dvd (by omega) (Int.natAbs_dvd_natAbs.mpr (Int.gcd_dvd_right t b))
noncomputable def uC (dv:Nat):List S:=[.set (.nm 2) (.call dv [(.var 0),(.var 1)]),.ret (.tup [(.op .fdiv (.var 0) (.var 2)),(.op .fdiv (.var 1) (.var 2))])]
theorem jj (sc:Bool) (a b:Int):dh ⟨sc,0,0⟩ (.ok (.rt (.tup [.int a,.int b])))=.ok (lV a b):=by cases sc <;> rfl
theorem EC {Ψ ΨM:FnT} {μ:Nat→Md} {sc:Bool} {dv:Nat} (hmv:(μ dv).mv=0) (hd:wF Ψ dv) (t b:Int) (hb:0 < b) (hs:b.natAbs < big):mkT Ψ ΨM μ ⟨sc,0,0⟩ [] (uC dv) 2 3 [.int t,.int b]=.ok (lV (t / (Int.gcd t b:Int)) (b / (Int.gcd t b:Int))):=by
 have hg:0 < Int.gcd t b:=Int.gcd_pos_of_ne_zero_right _ (by omega)
 have hl:=I0 t b (by omega)
 have d1:∀ i:Int,z2 .fdiv (.int i) (.int (Int.gcd t b:Int))=.ok (.int (i / (Int.gcd t b:Int))):=fun i=>jE (by omega) (by rw [Int.natAbs_natCast]; omega)
 show dh ⟨sc,0,0⟩ (ySs Ψ ΨM ⟨μ,[],0⟩ _ (uC dv) [some (.int t),some (.int b),none] [])=_
 simp only [uC,ag,cJ,jg,aL,af,ae,ba,aJ,ah,cy,cO,gK,e8,aV,aB,aA,aO,aq,jK,Ou.aa,ax,aw.eq_def,cm,List.getElem?_cons_zero,List.getElem?_cons_succ,List.set_cons_zero,List.set_cons_succ,List.contains_nil,Option.isSome_some,Bool.and_true,Bool.and_false,Bool.false_eq_true,if_false,Nat.min_def,Nat.lt_irrefl,decide_false,and_true,and_false,hmv,hd t b,d1,jj]
structure Nu (t b:Int):Prop where
 low:Low t b
 st:t.natAbs≤10 ^ 40
 sb:b.natAbs≤10 ^ 40
noncomputable def CP (Ψ:FnT) (md:Nat):Prop:=∀ (t b:Int),0 < b→t.natAbs≤10 ^ 40→b.natAbs≤10 ^ 40→∃ t' b',Ψ md [.int t,.int b]=.ok (lV t' b')∧Nu t' b'
theorem Eg {Ψ ΨM:FnT} {μ:Nat→Md} {sc:Bool} {dv:Nat} (hmv:(μ dv).mv=0) (hd:wF Ψ dv) (t b:Int) (hb:0 < b) (st:t.natAbs≤10 ^ 40) (sb:b.natAbs≤10 ^ 40):∃ t' b',mkT Ψ ΨM μ ⟨sc,0,0⟩ [] (uC dv) 2 3 [.int t,.int b]=.ok (lV t' b')∧Nu t' b':=by
 refine ⟨_,_,EC hmv hd t b hb (ic (Nat.lt_of_le_of_lt sb (by decide))),(EH hb).1,?_,?_⟩
 · exact Nat.le_trans (Int.natAbs_ediv_le_natAbs _ _) st
 · exact Nat.le_trans (Int.natAbs_ediv_le_natAbs _ _) sb
noncomputable def i5 (md:Nat):List S:=[.ite (.cmp .eq (.var 0) (.cI 1)) [.ret (.tup [(.op .sub (.op .mod (.var 1) (.cI 5)) (.cI 2)),(.cI 1)])] [],.ite (.cmp .eq (.var 0) (.cI 3)) [.set (.nm 2) (.op .mul (.op .mod (.op .fdiv (.var 1) (.cI 2)) (.op .pow (.cI 10) (.cI 40))) (.op .sub (.cI 1) (.op .mul (.cI 2) (.op .mod (.var 1) (.cI 2))))),.ret (.call md [(.var 2),(.op .add (.cI 1) (.op .mod (.op .fdiv (.var 1) (.op .mul (.cI 2) (.op .pow (.cI 10) (.cI 40)))) (.op .sub (.op .pow (.cI 10) (.cI 40)) (.cI 1))))])] [],.ite (.cmp .eq (.var 0) (.cI 2)) [.ret (.call md [(.op .mod (.var 1) (.cI 10)),(.op .add (.cI 1) (.op .mod (.op .fdiv (.var 1) (.cI 10)) (.cI 6)))])] [],.ret (.call md [(.op .sub (.op .mod (.var 1) (.cI 19)) (.cI 9)),(.op .add (.cI 1) (.op .mod (.op .fdiv (.var 1) (.cI 19)) (.cI 6)))])]
theorem uz (i:Int) (j:Int) (h:0 < j:=by decide):z2 .mod (.int i) (.int j)=.ok (.int (i % j)):=gR h
theorem AU {Ψ ΨM:FnT} {μ:Nat→Md} {sc:Bool} {md:Nat} (hm:CP Ψ md) (k p:Int):∃ t b,mkT Ψ ΨM μ ⟨sc,0,0⟩ [] (i5 md) 2 3 [.int k,.int p]=.ok (lV t b)∧Nu t b:=by
 have m5:=uz p 5
 have m2:=uz p 2
 have m10:=uz p 10
 have m19:=uz p 19
 have m6:∀ z:Int,z2 .mod (.int z) (.int 6)=.ok (.int (z % 6)):=fun z=>gR (by decide)
 have f2:z2 .fdiv (.int p) (.int 2)=.ok (.int (p / 2)):=jE (by decide) (ic (by decide))
 have f10:z2 .fdiv (.int p) (.int 10)=.ok (.int (p / 10)):=jE (by decide) (ic (by decide))
 have f19:z2 .fdiv (.int p) (.int 19)=.ok (.int (p / 19)):=jE (by decide) (ic (by decide))
 have mp:∀ z:Int,z2 .mod (.int z) (.int (10 ^ 40))=.ok (.int (z % 10 ^ 40)):=fun z=>gR (by decide)
 have mq:∀ z:Int,z2 .mod (.int z) (.int (10 ^ 40 - 1))=.ok (.int (z % (10 ^ 40 - 1))):=fun z=>gR (by decide)
 have t2:z2 .mul (.int 2) (.int (p % 2))=.ok (.int (2 * (p % 2))):=fq (ei (by decide))
 have tt:∀ z:Int,z2 .mul (.int z) (.int (1 - 2 * (p % 2)))=.ok (.int (z * (1 - 2 * (p % 2)))):=fun z=>fq (fD (by omega))
 have t40:z2 .mul (.int 2) (.int (10 ^ 40))=.ok (.int (2 * 10 ^ 40)):=fq (ei (by decide))
 have f40:z2 .fdiv (.int p) (.int (2 * 10 ^ 40))=.ok (.int (p / (2 * 10 ^ 40))):=jE (by decide) (ic (by decide))
 show ∃ t b,dh ⟨sc,0,0⟩ (ySs Ψ ΨM ⟨μ,[],0⟩ _ (i5 md) [some (.int k),some (.int p),none] [])=_∧_
 by_cases k1:k=1
 · refine ⟨p % 5 - 2,1,?_,⟨by decide,Int.gcd_one_right _⟩,by omega,by decide⟩
   simp only [i5,ag,aM,cJ,bt,jg,af,ae,aJ,bR,aD,ah,aB,dE,az,aO,aq,jK,Ou.aa,ax,bP,oy,List.getElem?_cons_zero,List.getElem?_cons_succ,decide_true,k1,decide_true,m5,jj]
 by_cases k3:k=3
 · have hz:0≤p / 2 % 10 ^ 40∧p / 2 % 10 ^ 40 < 10 ^ 40:=⟨Int.emod_nonneg _ (by decide),Int.emod_lt_of_pos _ (by decide)⟩
   have hy:0≤p / (2 * 10 ^ 40) % (10 ^ 40 - 1)∧p / (2 * 10 ^ 40) % (10 ^ 40 - 1) < 10 ^ 40 - 1:=⟨Int.emod_nonneg _ (by decide),Int.emod_lt_of_pos _ (by decide)⟩
   have st:(p / 2 % 10 ^ 40 * (1 - 2 * (p % 2))).natAbs≤10 ^ 40:=by
     rcases (by omega:p % 2=0∨p % 2=1) with q | q
     · rw [q]; omega
     · rw [q]; omega
   obtain ⟨t,b,e,nu⟩:=hm (p / 2 % 10 ^ 40 * (1 - 2 * (p % 2))) (1 + p / (2 * 10 ^ 40) % (10 ^ 40 - 1)) (by omega) st (by omega)
   refine ⟨t,b,?_,nu⟩
   subst k3
   simp only [i5,ag,aM,cJ,bt,jg,aL,af,ae,ba,aJ,bR,aD,ah,gq,tZ,aV,aB,aA,dE,dS,az,aO,aq,Ou.aa,ax,aw.eq_def,cm,bP,ji,oy,List.getElem?_cons_zero,List.getElem?_cons_succ,List.set_cons_zero,List.set_cons_succ,List.contains_nil,Option.isSome_some,Bool.and_true,Bool.false_eq_true,if_false,Nat.min_def,decide_true,decide_false,and_true,k1,decide_true,decide_false,f2,p40,mp,m2,t2,tt,t40,f40,mq,e,lV,jj]
 by_cases k2:k=2
 · obtain ⟨t,b,e,nu⟩:=hm (p % 10) (1 + p / 10 % 6) (by omega) (by omega) (by omega)
   refine ⟨t,b,?_,nu⟩
   subst k2
   simp only [i5,ag,aM,cJ,bt,jg,aL,af,ae,ba,aJ,bR,aD,ah,gq,tZ,aV,aB,aA,dE,dS,az,aO,aq,Ou.aa,ax,aw.eq_def,cm,bP,ji,List.getElem?_cons_zero,List.getElem?_cons_succ,List.set_cons_zero,List.set_cons_succ,List.contains_nil,Option.isSome_some,Bool.and_true,Bool.false_eq_true,if_false,Nat.min_def,decide_true,decide_false,and_true,k1,k3,decide_true,decide_false,m10,f10,m6,e,lV,jj]
 · obtain ⟨t,b,e,nu⟩:=hm (p % 19 - 9) (1 + p / 19 % 6) (by omega) (by omega) (by omega)
   refine ⟨t,b,?_,nu⟩
   simp only [i5,ag,aM,cJ,bt,jg,aL,af,ae,ba,aJ,bR,aD,ah,gq,tZ,aV,aB,aA,dS,az,aO,aq,Ou.aa,ax,aw.eq_def,cm,bP,ji,oy,List.getElem?_cons_zero,List.getElem?_cons_succ,List.set_cons_zero,List.set_cons_succ,List.contains_nil,Option.isSome_some,Bool.and_true,Bool.false_eq_true,if_false,Nat.min_def,decide_false,and_true,k1,k3,k2,decide_true,decide_false,m19,f19,m6,e,lV,jj]
end Sv
namespace Sv
open PySem PySem.Spec L2
open Ev (D aZ bp ai)
mutual
noncomputable def nx:T→Bool
 | .exo _=>false
 | .tup xs=>nxs xs
 | .lst xs=>nxs xs
 | _=>true
noncomputable def nxs:List T→Bool
 | []=>true
 | x :: xs=>nx x && nxs xs
end
theorem tK:∀ {xs:List T} {x:T},nxs xs=true→x ∈ xs→nx x=true
 | y :: ys,x,h,hx=>by
   rw [nxs,Bool.and_eq_true] at h
   rcases List.mem_cons.mp hx with rfl | hx
   · exact h.1
   · exact tK h.2 hx
theorem BR:∀ {xs:List T},(∀ x ∈ xs,nx x=true)→nxs xs=true
 | [],_=>rfl
 | x :: xs,h=>by rw [nxs,h x (List.mem_cons_self ..),BR fun y hy=>h y (List.mem_cons_of_mem _ hy)]; rfl
theorem tP {xs:List T} (h:∀ x ∈ xs,nx x=true):nx (.lst xs)=true:=by rw [nx]; exact BR h
theorem qA {xs:List T} (h:nx (.lst xs)=true):∀ x ∈ xs,nx x=true:=fun x hx=>tK (by rwa [nx] at h) hx
theorem BS {xs:List T} (h:nx (.tup xs)=true):∀ x ∈ xs,nx x=true:=fun x hx=>tK (by rwa [nx] at h) hx
noncomputable def uf:T→Bool
 | .int _=>true
 | _=>false
theorem v9 {d:T} (h:uf d=true):∃ i,d=.int i:=by
 cases d with
 | int i=>exact ⟨i,rfl⟩
 | _=>cases h
noncomputable def uk:List S:=[.ret (.and (.isi (.var 0) .int) (.not (.isi (.var 0) .bool)))]
noncomputable def Iu (Ψ:FnT) (w:Nat):Prop:=∀ d,nx d=true→Ψ w [d]=.ok (.bl (uf d))
theorem qE {Ψ ΨM:FnT} {μ:Nat→Md} {sc:Bool} (d:T) (h:nx d=true):mkT Ψ ΨM μ ⟨sc,0,0⟩ [] uk 1 1 [d]=.ok (.bl (uf d)):=by
 show dh ⟨sc,0,0⟩ (ySs Ψ ΨM ⟨μ,[],0⟩ _ uk [some d] [])=_
 cases d <;> first | (simp [nx] at h; done) | (simp only [uk,ag,gM,ee,gg,aJ,ah,aB,jm,iC,gQ,tL,xl,ug,uu,jo,pK,bj,aO,Ou.aa,ax,jG.eq_def,List.getElem?_cons_zero,Bool.not_true,Bool.not_false,uf])
noncomputable def rb:T→Bool
 | .tup [.int a,.int b]=>decide (1≤b) && decide (Int.gcd a b=1)
 | _=>false
theorem Cj {xs:List T} (h:xs.length ≠ 2):rb (.tup xs)=false:=by
 match xs,h with
 | [],_=>rfl
 | [a],_=>cases a <;> rfl
 | [a,b],h=>simp at h
 | a :: b :: c :: r,_=>cases a <;> first | rfl | (cases b <;> rfl)
theorem vZ {a b:T} (h:(uf a && uf b)=false):rb (.tup [a,b])=false:=by
 cases a <;> cases b <;> first | rfl | (simp [uf] at h)
noncomputable def iL (wh cd:Nat):List S:=[.ite (.or (.not (.isi (.var 0) .tuple)) (.cmp .ne (.bi .len [(.var 0)]) (.cI 2))) [.ret (.cB false)] [],.ite (.or (.not (.call wh [(.ix (.var 0) (.cI 0))])) (.not (.call wh [(.ix (.var 0) (.cI 1))]))) [.ret (.cB false)] [],.ret (.and (.cmp .ge (.ix (.var 0) (.cI 1)) (.cI 1)) (.cmp .eq (.call cd [(.ix (.var 0) (.cI 0)),(.ix (.var 0) (.cI 1))]) (.cI 1)))]
noncomputable def La (Ψ:FnT) (f:Nat):Prop:=∀ d,nx d=true→Ψ f [d]=.ok (.bl (rb d))
theorem LR {xs:List T} (h:xs.length=2):∃ a b,xs=[a,b]:=by
 match xs,h with
 | [a,b],_=>exact ⟨a,b,rfl⟩
theorem ne2 {xs:List T} (h:xs.length ≠ 2):¬ ((xs.length:Nat):Int)=2:=by omega
section
variable {Ψ ΨM:FnT} {μ:Nat→Md} {sc:Bool} {wh cd:Nat}
theorem Df (hw:Iu Ψ wh) (hc:wF Ψ cd) (d:T) (h:nx d=true):mkT Ψ ΨM μ ⟨sc,0,0⟩ [] (iL wh cd) 1 1 [d]=.ok (.bl (rb d)):=by
 show dh ⟨sc,0,0⟩ (ySs Ψ ΨM ⟨μ,[],0⟩ _ (iL wh cd) [some d] [])=_
 cases d with
 | exo c=>simp [nx] at h
 | tup xs=>
   by_cases hl:xs.length=2
   · obtain ⟨a,b,rfl⟩:=LR hl
     have ha:=BS h a (by simp)
     have hb:=BS h b (by simp)
     have l2:((([a,b]:List T).length:Nat):Int)=2:=rfl
     cases wa:uf a with
     | false=>simp only [iL,ag,g8,aM,gM,bt,iW,bX,aL,bA,gg,af,ae,aJ,bR,aD,ah,aV,aB,sP,ll,dE,dS,gQ,az,jo,bj,aO,aq,Ou.aa,ax,dP,sU,zh,ja,jG,List.getElem?_cons_zero,Bool.not_true,Bool.not_false,decide_true,l2,hw a ha,hw b hb,wa,vZ (a:=a) (b:=b) (by rw [wa]; rfl)]
     | true=>
       cases wb:uf b with
       | false=>simp only [iL,ag,g8,aM,gM,bt,iW,bX,aL,bA,gg,af,ae,aJ,bR,aD,ah,aV,aB,ll,dE,dS,gQ,az,jo,bj,aO,aq,Ou.aa,ax,dP,sU,zh,ja,jG,List.getElem?_cons_zero,Bool.and_false,Bool.not_true,Bool.not_false,decide_true,and_false,l2,hw a ha,hw b hb,wa,wb,vZ (a:=a) (b:=b) (by rw [wb,Bool.and_false])]
       | true=>
         obtain ⟨i,rfl⟩:=v9 wa
         obtain ⟨j,rfl⟩:=v9 wb
         by_cases hj:1≤j
         · simp only [iL,ag,g8,aM,gM,bt,ee,iW,bX,aL,bA,gg,af,ae,aJ,bR,aD,ah,aV,aB,jm,ll,dS,gQ,az,jo,bj,aO,aq,Ou.aa,ax,bP,dP,kI,sU,zh,ja,jG.eq_def,List.getElem?_cons_zero,Bool.true_and,Bool.not_true,decide_true,true_and,l2,hw _ ha,hw _ hb,wa,wb,hj,hc i j,rb]
           congr 2
           exact decide_eq_decide.mpr (by omega)
         · simp only [iL,ag,g8,aM,gM,bt,ee,iW,bX,aL,bA,gg,af,ae,aJ,bR,aD,ah,aV,aB,iC,ll,dS,gQ,az,jo,bj,aO,aq,Ou.aa,ax,bP,dP,kI,sU,zh,ja,jG.eq_def,List.getElem?_cons_zero,Bool.false_and,Bool.not_true,decide_true,decide_false,false_and,l2,hw _ ha,hw _ hb,wa,wb,hj,hc i j,rb]
   · simp only [iL,ag,g8,aM,gM,bt,iW,bA,gg,af,ae,aJ,bR,aD,ah,aB,ll,dE,gQ,az,jo,bj,aO,aq,Ou.aa,ax,dP,ja,jG.eq_def,List.getElem?_cons_zero,Bool.not_true,Bool.not_false,decide_false,ne2 hl,Cj hl]
 | _=>simp only [iL,ag,g8,aM,gM,bt,iW,bA,gg,af,ae,aJ,bR,aD,ah,aB,sP,dE,gQ,az,tL,xl,ug,uu,pK,bj,aO,aq,Ou.aa,ax,dP,dz,jG.eq_def,List.getElem?_cons_zero,Bool.not_false,rb]
end
end Sv
namespace Sv
open PySem PySem.Spec L2
open Ev (D aZ bp ai)
noncomputable def fR:T→Bool
 | .lst xs=>decide (1≤xs.length) && decide (xs.length≤7)
 | _=>false
noncomputable def fS (p:T→Bool):T→Bool
 | .lst xs=>xs.all p
 | _=>false
noncomputable def o8 (d:T):Bool:=fR d && fS rb d
noncomputable def eF:T→Nat
 | .lst xs=>xs.length
 | _=>0
noncomputable def hdT:T→T
 | .lst (x :: _)=>x
 | _=>.non
noncomputable def vp (d:T):Bool:=fR d && fS o8 d && fS (fun r=>decide (eF r=eF (hdT d))) d
theorem fM {d:T} (h:fR d=true):∃ x xs,d=.lst (x :: xs)∧(x :: xs).length≤7:=by
 cases d with
 | lst ys=>
   simp only [fR,Bool.and_eq_true,decide_eq_true_eq] at h
   cases ys with
   | nil=>simp at h
   | cons x xs=>exact ⟨x,xs,rfl,h.2⟩
 | _=>cases h
theorem CI {d:T} (h:o8 d=true):∃ xs,d=.lst xs∧xs.length≤7:=by
 unfold o8 at h
 rw [Bool.and_eq_true] at h
 obtain ⟨x,xs,rfl,hl⟩:=fM h.1
 exact ⟨_,rfl,hl⟩
theorem bJ {n:Nat} (h:n≤7):n < ai:=Nat.lt_of_le_of_lt h (by decide)
noncomputable def mT:List S:=[.ret (.and (.isi (.var 0) .list) (.chain .le .le (.cI 1) (.bi .len [(.var 0)]) (.cI 7)))]
noncomputable def y6 (sl fr:Nat):List S:=[.ret (.and (.call sl [(.var 0)]) (.bi .all [(.comp [none] (.nm 0) (.seq (.var 0)) [] (.call fr [(.var 0)]))]))]
noncomputable def ka (sl rw:Nat):List S:=[.ite (.or (.not (.call sl [(.var 0)])) (.not (.bi .all [(.comp [none] (.nm 0) (.seq (.var 0)) [] (.call rw [(.var 0)]))]))) [.ret (.cB false)] [],.ret (.bi .all [(.comp [none,some 0] (.nm 0) (.seq (.var 0)) [] (.cmp .eq (.bi .len [(.var 0)]) (.bi .len [(.ix (.var 1) (.cI 0))])))])]
noncomputable def JT (Ψ:FnT) (f:Nat):Prop:=∀ d,nx d=true→Ψ f [d]=.ok (.bl (fR d))
noncomputable def KO (Ψ:FnT) (f:Nat):Prop:=∀ d,nx d=true→Ψ f [d]=.ok (.bl (o8 d))
theorem wd {f:T→aC→Own→Ou FlT} {E:Option T→aC} {own:Own} {p:T→Bool}:∀ (xs:List T) (r:Option T),(∀ x ∈ xs,∀ r,f x (E r) own=if p x then .ok (.nx (E (some x)) own) else .ok (.rt (.bl false))) →
   ∃ r',cT f xs (E r) own=if xs.all p then .ok (.nx (E r') own) else .ok (.rt (.bl false))
 | [],r,_=>⟨r,by rw [cL]; rfl⟩
 | x :: xs,r,h=>by
   obtain ⟨r',e⟩:=wd xs (some x) fun y hy=>h y (List.mem_cons_of_mem _ hy)
   refine ⟨r',?_⟩
   rw [bM,h x (List.mem_cons_self ..),List.all_cons]
   cases p x with
   | true=>simp only [if_true,Ou.aa,cR,Bool.true_and]; exact e
   | false=>rfl
section
variable {Ψ ΨM:FnT} {μ:Nat→Md} {sc:Bool} {sl fr rw':Nat}
theorem AJ (d:T) (h:nx d=true):mkT Ψ ΨM μ ⟨sc,0,0⟩ [] mT 1 1 [d]=.ok (.bl (fR d)):=by
 show dh ⟨sc,0,0⟩ (ySs Ψ ΨM ⟨μ,[],0⟩ _ mT [some d] [])=_
 cases d with
 | exo c=>simp [nx] at h
 | lst xs=>
   by_cases h1:1≤xs.length
   · have h1':(1:Int)≤((xs.length:Nat):Int):=by omega
     simp only [mT,ag,aM,cU,ee,bA,gg,af,ae,aJ,ah,aB,jm,zf,az,pK,bj,aO,Ou.aa,ax,eE,dz,jG.eq_def,List.getElem?_cons_zero,Bool.true_and,decide_true,true_and,h1',fR,h1]
     congr 2
     exact decide_eq_decide.mpr (by omega)
   · have h1':¬ (1:Int)≤((xs.length:Nat):Int):=by omega
     simp only [mT,ag,aM,cU,ee,bA,gg,af,ae,aJ,ah,aB,jm,yV,az,pK,bj,aO,Ou.aa,ax,eE,dz,jG.eq_def,List.getElem?_cons_zero,Bool.false_and,decide_false,false_and,h1',fR,h1]
 | _=>simp only [mT,ag,aM,cU,ee,bA,gg,af,ae,aJ,ah,aB,iC,az,tL,xl,ug,uu,jo,bj,aO,Ou.aa,ax,eE,ja,jG.eq_def,List.getElem?_cons_zero,fR]
theorem kD {f:Nat} {p:T→Bool} {τ:aC} {xs:List T} (hf:∀ x ∈ xs,Ψ f [x]=.ok (.bl (p x))):dm (jk Ψ τ [none] (.nm 0) [] (.call f [(.var 0)])) xs=.ok (xs.map fun x=>.bl (p x)):=
 jq xs fun x hx=>by simp only [ag,aL,af,ae,bo,Ou.aa,ax,aw.eq_def,dB,aj,List.getElem?_cons_zero,List.set_cons_zero,List.map_cons,List.map_nil,List.nil_append,List.cons_append,Option.bind_none,if_true,hf x hx]
theorem JD (hs:JT Ψ sl) (hf:La Ψ fr) (d:T) (h:nx d=true):mkT Ψ ΨM μ ⟨sc,0,0⟩ [] (y6 sl fr) 1 1 [d]=.ok (.bl (o8 d)):=by
 show dh ⟨sc,0,0⟩ (ySs Ψ ΨM ⟨μ,[],0⟩ _ (y6 sl fr) [some d] [])=_
 cases hd:fR d with
 | false=>simp only [y6,ag,ee,aL,bA,kJ,af,ae,cb,aJ,ah,aB,iC,bj,aO,Ou.aa,ax,List.getElem?_cons_zero,Bool.false_and,false_and,hs d h,hd,o8]
 | true=>
   obtain ⟨x,xs,rfl,hl⟩:=fM hd
   have hc:=kD (Ψ:=Ψ) (f:=fr) (p:=rb) (τ:=[some (.lst (x :: xs))]) (xs:=x :: xs) fun y hy=>hf y (qA h y hy)
   simp only [y6,ag,ee,aL,bA,kJ,af,ae,cb,aJ,ah,jm,kb,Ou.aa,ax,List.getElem?_cons_zero,Bool.true_and,true_and,hs _ h,hd,o8,if_pos (bJ hl)]
   simp only [List.map_cons] at hc
   simp only [hc,Ou.aa,Ou.de,List.all_cons,fS]
   have:=ou (x :: xs) rb
   simp only [List.map_cons,List.all_cons] at this
   simp only [this,aB,bj,aO,Ou.aa]
theorem zS (hs:JT Ψ sl) (hr:KO Ψ rw') (d:T) (h:nx d=true):mkT Ψ ΨM μ ⟨sc,0,0⟩ [] (ka sl rw') 1 1 [d]=.ok (.bl (vp d)):=by
 show dh ⟨sc,0,0⟩ (ySs Ψ ΨM ⟨μ,[],0⟩ _ (ka sl rw') [some d] [])=_
 cases hd:fR d with
 | false=>simp only [ka,ag,g8,gM,iW,aL,bA,kJ,af,ae,cb,aJ,bR,aD,ah,aB,sP,dE,gQ,bj,aO,aq,Ou.aa,ax,List.getElem?_cons_zero,Bool.false_and,Bool.not_false,false_and,hs d h,hd,vp]
 | true=>
   obtain ⟨x,xs,rfl,hl⟩:=fM hd
   have hc:=kD (Ψ:=Ψ) (f:=rw') (p:=o8) (τ:=[some (.lst (x :: xs))]) (xs:=x :: xs) fun y hy=>hr y (qA h y hy)
   have ha:=ou (x :: xs) o8
   generalize hX:x :: xs=X at *
   cases hA:X.all o8 with
   | false=>
     rw [hA] at ha
     simp only [ka,ag,g8,gM,iW,aL,bA,kJ,af,ae,cb,aJ,bR,aD,ah,aB,ll,dE,gQ,kb,bj,aO,aq,Ou.aa,Ou.de,ax,List.getElem?_cons_zero,Bool.false_and,Bool.and_false,Bool.not_true,Bool.not_false,and_false,false_and,hs _ h,hd,vp,if_pos (bJ hl),hc,ha,fS,hA]
   | true=>
     rw [hA] at ha
     have hx0:zI (.lst X) (.int 0)=.ok x:=by rw [← hX]; exact gX x xs
     have hrow:∀ y ∈ X,∃ ys,y=.lst ys:=fun y hy=>let ⟨ys,e,_⟩:=CI (List.all_eq_true.mp hA y hy); ⟨ys,e⟩
     obtain ⟨zs,hz⟩:=hrow x (by rw [← hX]; exact List.mem_cons_self ..)
     have hh:hdT (.lst X)=x:=by rw [← hX]; rfl
     have h2:dm (jk Ψ [some (.lst X)] [none,some 0] (.nm 0) [] (.cmp .eq (.bi .len [(.var 0)]) (.bi .len [(.ix (.var 1) (.cI 0))]))) X=.ok (X.map fun r=>.bl (decide (eF r=eF x))):=
       jq X fun y hy=>by
         obtain ⟨ys,rfl⟩:=hrow y hy
         subst hz
         simp only [ag,aM,bt,bX,bA,af,ae,bo,az,Ou.aa,ax,aw.eq_def,dB,bP,dz,aj,List.getElem?_cons_zero,List.getElem?_cons_succ,List.set_cons_zero,List.map_cons,List.map_nil,List.nil_append,List.cons_append,Option.bind_some,Option.bind_none,Option.join_some,if_true,hx0,eF]
         congr 3
         exact decide_eq_decide.mpr (by omega)
     have h3:=ou X fun r=>decide (eF r=eF x)
     simp only [ka,ag,g8,gM,iW,aL,bA,kJ,af,ae,cb,aJ,bR,aD,ah,aV,aB,ll,dS,gQ,kb,bj,aO,aq,Ou.aa,Ou.de,ax,List.getElem?_cons_zero,Bool.true_and,Bool.and_true,Bool.not_true,and_true,true_and,hs _ h,hd,vp,if_pos (bJ hl),hc,ha,fS,hA,h2,h3,hh]
theorem zb {α:Type} (p q:α→Bool):∀ xs:List α,xs.all (fun x=>p x && q x)=(xs.all p && xs.all q)
 | []=>rfl
 | x :: xs=>by rw [List.all_cons,List.all_cons,List.all_cons,zb p q xs]; cases p x <;> cases q x <;> cases xs.all p <;> rfl
end
end Sv
namespace Sv
open PySem PySem.Spec L2
open Ev (D aZ bp ai)
noncomputable def xt (Ψ:FnT) (nb:Nat):Prop:=∀ (c:Int) (bs:List Int),(∀ b ∈ bs,0 < b∧b.natAbs < 10 ^ 200)→bs.length < ai→∃ rs:List Int,Dig rs bs∧Ψ nb [.int c,inT bs]=.ok (inT rs)
noncomputable def ux (nb:Nat):List S:=[.set (.nm 1) (.call nb [(.var 0),(.lst [(.cI 8),(.cI 4),(.cI 4),(.cI 7),(.cI 7)])]),.ite (.cmp .eq (.ix (.var 1) (.cI 0)) (.cI 1)) [.ret (.tup [(.op .add (.cI 1) (.ix (.var 1) (.cI 3))),(.op .add (.cI 1) (.ix (.var 1) (.cI 4)))])] [],.ret (.tup [(.op .add (.cI 1) (.ix (.var 1) (.cI 1))),(.op .add (.cI 1) (.ix (.var 1) (.cI 2)))])]
theorem EZ {Ψ ΨM:FnT} {μ:Nat→Md} {sc:Bool} {nb:Nat} (hmv:(μ nb).mv=0) (hn:xt Ψ nb) (c:Int):∃ m w:Nat,(1≤m∧m≤7)∧(1≤w∧w≤7)∧mkT Ψ ΨM μ ⟨sc,0,0⟩ [] (ux nb) 1 2 [.int c]=.ok (.tup [.int (m:Nat),.int (w:Nat)]):=by
 show ∃ m w:Nat,_∧_∧dh ⟨sc,0,0⟩ (ySs Ψ ΨM ⟨μ,[],0⟩ _ (ux nb) [some (.int c),none] [])=_
 obtain ⟨rs,dg,e⟩:=hn c [8,4,4,7,7] (by
   intro b hb
   simp only [List.mem_cons,List.not_mem_nil,or_false] at hb
   rcases hb with rfl | rfl | rfl | rfl | rfl <;> decide) (by decide)
 match rs,dg with
 | [r0,r1,r2,r3,r4],dg=>
   obtain ⟨_,d1,d2,d3,d4,_⟩:=dg
   simp only [inT,List.map_cons,List.map_nil] at e
   by_cases h:r0=1
   · refine ⟨(1 + r3).toNat,(1 + r4).toNat,by omega,by omega,?_⟩
     have e1:(((1 + r3).toNat:Nat):Int)=1 + r3:=by omega
     have e2:(((1 + r4).toNat:Nat):Int)=1 + r4:=by omega
     rw [e1,e2]
     simp only [ux,ag,aM,cJ,bt,jg,dq,bX,aL,af,ae,ba,aJ,bR,aD,ah,cy,cO,gK,e8,aV,aB,aA,dE,az,aO,aq,jK,uP,Ou.aa,ax,aw.eq_def,cm,bP,ji,gX,sM,FO,List.getElem?_cons_zero,List.getElem?_cons_succ,List.set_cons_zero,List.set_cons_succ,List.contains_nil,Option.isSome_some,Bool.and_true,Bool.and_false,Bool.false_eq_true,if_false,Nat.min_def,Nat.lt_irrefl,decide_true,decide_false,and_true,and_false,hmv,e,h,jj,lV]
   · refine ⟨(1 + r1).toNat,(1 + r2).toNat,by omega,by omega,?_⟩
     have e1:(((1 + r1).toNat:Nat):Int)=1 + r1:=by omega
     have e2:(((1 + r2).toNat:Nat):Int)=1 + r2:=by omega
     rw [e1,e2]
     simp only [ux,ag,aM,cJ,bt,jg,dq,bX,aL,af,ae,ba,aJ,bR,aD,ah,cy,cO,gK,e8,aV,aB,aA,dS,az,aO,aq,jK,uP,Ou.aa,ax,aw.eq_def,cm,bP,ji,gX,oG,oF,sM,FO,List.getElem?_cons_zero,List.getElem?_cons_succ,List.set_cons_zero,List.set_cons_succ,List.contains_nil,Option.isSome_some,Bool.and_true,Bool.and_false,Bool.false_eq_true,if_false,Nat.min_def,Nat.lt_irrefl,decide_false,and_true,and_false,hmv,e,h,jj,lV]
noncomputable def KZ (Ψ:FnT) (nu:Nat):Prop:=∀ k p:Int,∃ t b,Ψ nu [.int k,.int p]=.ok (lV t b)∧Nu t b
noncomputable def fr2 (p:Int × Int):T:=lV p.1 p.2
noncomputable def vY (r:List (Int × Int)):T:=.lst (r.map fr2)
noncomputable def sk (rows:List (List (Int × Int))):T:=.lst (rows.map vY)
noncomputable def Tbl (rows:List (List (Int × Int))) (m w:Nat):Prop:=rows.length=m∧∀ r ∈ rows,r.length=w∧∀ p ∈ r,Nu p.1 p.2
noncomputable def Bb (nb nu:Nat):List S:=[.set (.nm 4) (.ix (.lst [(.cI 114),(.cI 5),(.cI 60),(.op .mul (.op .mul (.cI 2) (.op .pow (.cI 10) (.cI 40))) (.op .pow (.cI 10) (.cI 40)))]) (.var 3)),.set (.nm 5) (.call nb [(.var 0),(.comp [none,some 4] (.nm 0) (.rng (.op .mul (.var 1) (.var 2))) [] (.var 1))]),.ret (.comp [none,some 3,some 5,some 2] (.nm 0) (.rng (.var 1)) [] (.comp [none,some 0,some 1,some 2,some 3] (.nm 0) (.rng (.var 3)) [] (.call nu [(.var 2),(.ix (.var 3) (.op .add (.op .mul (.var 4) (.var 1)) (.var 0)))])))]
theorem D2 (n:Nat) (h:n < 1000000):Js (.int (n:Nat))=.ok ((List.range n).map fun k=>.int (k:Nat)):=by
 rw [Js,if_pos (by omega),Int.toNat_natCast]
 unfold rangeT
 congr 2
 funext k
 rw [Int.zero_add]
theorem fH {Ψ:FnT} {e:E} {τ:aC} {n:Nat} (h:yE Ψ e τ=.ok (.int (n:Nat))) (hn:n < 1000000):yIt Ψ (.rng e) τ=.ok ((List.range n).map fun k=>.int (k:Nat)):=by
 rw [Eu,h,Ou.aa,D2 n hn]
theorem Dig.at:∀ {rs bs:List Int},Dig rs bs→∀ (i:Nat) r,rs[i]?=some r→∃ b,bs[i]?=some b∧0≤r∧r < b
 | [],[],_,i,r,h=>by simp at h
 | _ :: _,b :: _,h,0,r,e=>by simp at e; subst e; exact ⟨b,rfl,h.1⟩
 | _ :: _,_ :: _,h,i + 1,r,e=>by
   obtain ⟨b,h1,h2⟩:=Dig.at h.2 i r (by simpa using e)
   exact ⟨b,by simpa using h1,h2⟩
noncomputable def hU (k:Nat):Int:=if k=0 then 114 else if k=1 then 5 else if k=2 then 60 else 2 * 10 ^ 40 * 10 ^ 40
theorem BJ (k:Nat):0 < hU k∧(hU k).natAbs < 10 ^ 200:=by
 unfold hU
 split
 · decide
 split
 · decide
 split
 · decide
 · exact ⟨by decide,by decide +kernel⟩
theorem D4 (k:Nat) (h:k < 4):zI (.lst [.int 114,.int 5,.int 60,.int (2 * 10 ^ 40 * 10 ^ 40)]) (.int (k:Nat))=.ok (.int (hU k)):=by
 match k,h with
 | 0,_=>exact gX _ _
 | 1,_=>exact oG _ _ _
 | 2,_=>exact oF _ _ _ _
 | 3,_=>exact sM _ _ _ _ _
theorem Gq (F:Nat→Nat→Int × Int) (m w:Nat):sk ((List.range m).map fun i=>(List.range w).map fun j=>F i j)=.lst ((List.range m).map fun i=>.lst ((List.range w).map fun j=>fr2 (F i j))):=by
 simp only [sk,vY,List.map_map,Function.comp_def]
theorem bz {Ψ:FnT} {τ:aC} {caps:List (Option Nat)} {t:Tg} {it:It} {ifs:List E} {elt:E} {xs ys:List T} (h1:yIt Ψ it τ=.ok xs) (h2:xs.length < ai) (h3:dm (jk Ψ τ caps t ifs elt) xs=.ok ys):yE Ψ (.comp caps t it ifs elt) τ=.ok (.lst ys):=by
 rw [kJ,h1,Ou.aa,if_pos h2,h3]; rfl
theorem E5 {Ψ ΨM:FnT} {μ:Nat→Md} {nb nu:Nat} {R:Int→Int→Prop} (hmv:(μ nb).mv=0) (hn:xt Ψ nb) (c:Int) (m w k:Nat) (hm:m≤7) (hw:w≤7) (hk:k < 4) (hu:∀ p:Int,∃ t b,Ψ nu [.int (k:Nat),.int p]=.ok (lV t b)∧R t b) :
   ∃ F:Nat→Nat→Int × Int,(∀ i j,R (F i j).1 (F i j).2)∧mkT Ψ ΨM μ ⟨false,0,0⟩ [] (Bb nb nu) 4 6 [.int c,.int (m:Nat),.int (w:Nat),.int (k:Nat)]=.ok (.lst ((List.range m).map fun i=>.lst ((List.range w).map fun j=>fr2 (F i j)))):=by
 show ∃ F:Nat→Nat→Int × Int,_∧dh ⟨false,0,0⟩ (ySs Ψ ΨM ⟨μ,[],0⟩ _ (Bb nb nu) [some (.int c),some (.int (m:Nat)),some (.int (w:Nat)),some (.int (k:Nat)),none,none] [])=_
 have mw:m * w≤49:=Nat.mul_le_mul hm hw
 obtain ⟨rs,dg,e⟩:=hn c (List.replicate (m * w) (hU k)) (fun b hb=>by rw [List.eq_of_mem_replicate hb]; exact BJ k) (by rw [List.length_replicate]; exact Nat.lt_of_le_of_lt mw (by decide))
 have hl:rs.length=m * w:=by rw [dg.length,List.length_replicate]
 obtain ⟨f,hf⟩:=Classical.axiomOfChoice fun p:Int=>show ∃ q:Int × Int,Ψ nu [.int (k:Nat),.int p]=.ok (lV q.1 q.2)∧R q.1 q.2 from let ⟨t,b,h1,h2⟩:=hu p; ⟨(t,b),h1,h2⟩
 have t40:z2 .mul (.int 2) (.int (10 ^ 40))=.ok (.int (2 * 10 ^ 40)):=fq (ei (by decide))
 have t80:z2 .mul (.int (2 * 10 ^ 40)) (.int (10 ^ 40))=.ok (.int (2 * 10 ^ 40 * 10 ^ 40)):=fq (mulOk_of (ic (by decide)) (ic (by decide)))
 have tmw:z2 .mul (.int (m:Nat)) (.int (w:Nat))=.ok (.int ((m * w:Nat):Int)):=by rw [fq (ei (by omega)),Int.natCast_mul]
 have c1:dm (jk Ψ [some (.int c),some (.int (m:Nat)),some (.int (w:Nat)),some (.int (k:Nat)),some (.int (hU k)),none] [none,some 4] (.nm 0) [] (.var 1)) ((List.range (m * w)).map fun j=>.int (j:Nat))=.ok ((List.range (m * w)).map fun _=>.int (hU k)):=
   bC _ fun j _=>by simp only [ag,bo,Ou.aa,ax,aw.eq_def,dB,aj,List.getElem?_cons_zero,List.getElem?_cons_succ,List.set_cons_zero,List.map_cons,List.map_nil,List.nil_append,List.cons_append,Option.bind_some,Option.bind_none,Option.join_some,if_true]
 have r1:((List.range (m * w)).map fun _=>T.int (hU k))=(List.replicate (m * w) (hU k)).map .int:=by
   rw [List.map_replicate,List.map_const',List.length_range]
 have inner:∀ i,i < m→∀ (x:Option T),dm (jk Ψ [some (.int (i:Nat)),some (.int (k:Nat)),some (inT rs),some (.int (w:Nat)),x] [none,some 0,some 1,some 2,some 3] (.nm 0) [] (.call nu [(.var 2),(.ix (.var 3) (.op .add (.op .mul (.var 4) (.var 1)) (.var 0)))])) ((List.range w).map fun j=>.int (j:Nat))
     = .ok ((List.range w).map fun j=>fr2 (f (rs.getD (w * i + j) 0))):=fun i hi x=>bC _ fun j hj=>by
   have hj:=List.mem_range.mp hj
   have hlt:w * i + j < rs.length:=by
     rw [hl,Nat.mul_comm m w]
     exact Nat.lt_of_lt_of_le (Nat.add_lt_add_left hj _) (by rw [← Nat.mul_succ]; exact Nat.mul_le_mul_left w hi)
   have g1:z2 .mul (.int (w:Nat)) (.int (i:Nat))=.ok (.int ((w * i:Nat):Int)):=by rw [fq (ei (by omega)),Int.natCast_mul]
   have g2:((w * i:Nat):Int) + (j:Nat)=((w * i + j:Nat):Int):=by omega
   have g3:zI (inT rs) (.int ((w * i + j:Nat):Int))=.ok (.int (rs.getD (w * i + j) 0)):=dF (by
     rw [List.getElem?_map,List.getElem?_eq_getElem hlt,List.getD_eq_getElem?_getD,List.getElem?_eq_getElem hlt]; rfl)
   simp only [ag,cJ,bX,aL,af,ae,bo,Ou.aa,ax,aw.eq_def,dB,ji,aj,List.getElem?_cons_zero,List.getElem?_cons_succ,List.set_cons_zero,List.map_cons,List.map_nil,List.nil_append,List.cons_append,Option.bind_some,Option.bind_none,Option.join_some,if_true,g1,g2,g3,(hf _).1,fr2]
 refine ⟨fun i j=>f (rs.getD (w * i + j) 0),fun i j=>(hf _).2,?_⟩
 · have lw:((List.range w).map fun j=>T.int (j:Nat)).length < ai:=by rw [List.length_map,List.length_range]; exact bJ hw
   have lm:((List.range m).map fun j=>T.int (j:Nat)).length < ai:=by rw [List.length_map,List.length_range]; exact bJ hm
   have lmw:((List.range (m * w)).map fun j=>T.int (j:Nat)).length < ai:=by rw [List.length_map,List.length_range]; exact Nat.lt_of_le_of_lt mw (by decide)
   have ci:∀ i,i < m→yE Ψ (.comp [none,some 0,some 1,some 2,some 3] (.nm 0) (.rng (.var 3)) [] (.call nu [(.var 2),(.ix (.var 3) (.op .add (.op .mul (.var 4) (.var 1)) (.var 0)))])) [some (.int (i:Nat)),some (.int (k:Nat)),some (inT rs),some (.int (w:Nat)),none]=.ok (.lst ((List.range w).map fun j=>fr2 (f (rs.getD (w * i + j) 0)))):=fun i hi=>
     bz (fH (by rw [ag]; rfl) (Nat.lt_of_le_of_lt hw (by decide))) lw (inner i hi none)
   have outer:dm (jk Ψ [some (.int c),some (.int (m:Nat)),some (.int (w:Nat)),some (.int (k:Nat)),some (.int (hU k)),some (inT rs)] [none,some 3,some 5,some 2] (.nm 0) [] (.comp [none,some 0,some 1,some 2,some 3] (.nm 0) (.rng (.var 3)) [] (.call nu [(.var 2),(.ix (.var 3) (.op .add (.op .mul (.var 4) (.var 1)) (.var 0)))]))) ((List.range m).map fun j=>.int (j:Nat))
       = .ok ((List.range m).map fun i=>.lst ((List.range w).map fun j=>fr2 (f (rs.getD (w * i + j) 0)))):=bC _ fun i hi=>by
     simp only [bo,Ou.aa,aw.eq_def,dB,aj,List.getElem?_cons_zero,List.getElem?_cons_succ,List.set_cons_zero,List.map_cons,List.map_nil,List.nil_append,List.cons_append,Option.bind_some,Option.bind_none,Option.join_some,if_true,ci i (List.mem_range.mp hi)]
   have co:=bz (Ψ:=Ψ) (it:=.rng (.var 1)) (fH (by rw [ag]; rfl) (Nat.lt_of_le_of_lt hm (by decide))) lm outer
   have c1':=bz (Ψ:=Ψ) (it:=.rng (.op .mul (.var 1) (.var 2))) (fH (by rw [cJ,ag,ag]; exact tmw) (Nat.lt_of_le_of_lt mw (by decide))) lmw c1
   have e':Ψ nb [.int c,.lst ((List.range (m * w)).map fun _=>.int (hU k))]=.ok (inT rs):=by rw [r1]; exact e
   have e1:yE Ψ (.ix (.lst [(.cI 114),(.cI 5),(.cI 60),(.op .mul (.op .mul (.cI 2) (.op .pow (.cI 10) (.cI 40))) (.op .pow (.cI 10) (.cI 40)))]) (.var 3)) [some (.int c),some (.int (m:Nat)),some (.int (w:Nat)),some (.int (k:Nat)),none,none]=.ok (.int (hU k)):=by
     simp only [bX,dq,ae,af,aM,cJ,Ou.aa,ag,ax,List.getElem?_cons_succ,List.getElem?_cons_zero,p40,t40,t80,zl]
     exact D4 k hk
   have e2:yE Ψ (.call nb [(.var 0),(.comp [none,some 4] (.nm 0) (.rng (.op .mul (.var 1) (.var 2))) [] (.var 1))]) [some (.int c),some (.int (m:Nat)),some (.int (w:Nat)),some (.int (k:Nat)),some (.int (hU k)),none]=.ok (inT rs):=by
     rw [aL,ae,ag,ae,c1',af]
     exact e'
   have s1:∀ n,yS Ψ ΨM ⟨μ,[],0⟩ n (.set (.nm 4) (.ix (.lst [(.cI 114),(.cI 5),(.cI 60),(.op .mul (.op .mul (.cI 2) (.op .pow (.cI 10) (.cI 40))) (.op .pow (.cI 10) (.cI 40)))]) (.var 3))) [some (.int c),some (.int (m:Nat)),some (.int (w:Nat)),some (.int (k:Nat)),none,none] []=.ok (.nx [some (.int c),some (.int (m:Nat)),some (.int (w:Nat)),some (.int (k:Nat)),some (.int (hU k)),none] []):=fun n=>by
     rw [ba _ _ _ _ _ _ _ _ nr,e1]; rfl
   have s2:∀ n,yS Ψ ΨM ⟨μ,[],0⟩ n (.set (.nm 5) (.call nb [(.var 0),(.comp [none,some 4] (.nm 0) (.rng (.op .mul (.var 1) (.var 2))) [] (.var 1))])) [some (.int c),some (.int (m:Nat)),some (.int (w:Nat)),some (.int (k:Nat)),some (.int (hU k)),none] []=.ok (.nx [some (.int c),some (.int (m:Nat)),some (.int (w:Nat)),some (.int (k:Nat)),some (.int (hU k)),some (inT rs)] []):=fun n=>by
     rw [ba _ _ _ _ _ _ _ _ (by rw [cy]; simp only [hmv]; rfl),e2]; rfl
   rw [Bb,ah,s1,Ou.aa,aV,ah,s2,Ou.aa,aV,ah,aJ,co,Ou.aa,aO,Ou.aa,aB,fG]
end Sv
namespace Sv
open PySem PySem.Spec PyProof.Rows L2
theorem wz {Z:Zt} {m:List Addr} {H:Hp}:∀ ns:List Int,au Z m H (ns.map V.int) (ns.map U.int)
 | []=>.nil
 | _ :: r=>.cons .int (wz r)
theorem vf {st:Sto}:∀ ns:List Int,aR st (ns.map U.int) (ns.map T.int)
 | []=>.nil
 | _ :: r=>.cons .int (vf r)
theorem Hn {md:Md} {F:List U→Sto→Rs U} {G:List T→Ou T} (p:Pure md F G) (hG:∀ ns:List Int,ns.length≤63→G [inT ns]=.ok (.bl true)) {K:Params→PySem.W.Frag} {cl:Nat→Addr} (w:World) (H:Hp) (a:Addr) (ns:List Int) (hl:ns.length≤63) (hO:E9 H) (hS:SqL (K w.params) H a (ns.map V.int)) :
   spU ⟨K w.params,cl⟩ F [.ref a] H (fun v _=>v=.bl true) fun _ _ _=>False:=by
 have hF:SqF (K w.params) H a (ns.map V.int):=by
   rcases hS with (h | ⟨o,h⟩) | h
   · rcases hO a with z | ⟨o,xs,z⟩
     · rw [z] at h; cases h
     · rw [z] at h; cases h
   · exact .inl ⟨o,h⟩
   · exact .inr (.inr h)
 have g:=p.plain (h:=⟨fun _=>False,fun _=>False,fun _ z=>z⟩) (st:=[]) (us:=[.kl (ns.map .int)]) (ds:=[inT ns]) ⟨fun k fz us _ e=>by simp at e,fun _ z=>z.elim⟩
   (.cons (.of (.kl (vf ns)) (Av.kl.mpr fun u hu=>by obtain ⟨i,_,rfl⟩:=List.mem_map.mp hu; exact .int)) .nil)
 rw [hG ns hl] at g
 obtain ⟨u,st',h',e,_,r,_⟩:=g
 have:=r.jD
 subst this
 refine ⟨[],[],[.kl (ns.map .int)],⟨rfl,fun i j a e=>by simp at e,fun l a fz ds e=>by simp at e⟩,.cons (.kl hF (wz ns)) .nil,?_⟩
 rw [e]
 exact fun m' H' v _ _ dv=>jN dv
end Sv
namespace Sv
open PySem PySem.Spec L2
open Ev (D aZ bp ai)
theorem GO (r:List (Int × Int)):nx (vY r)=true:=tP fun x hx=>by obtain ⟨p,_,rfl⟩:=List.mem_map.mp hx; rfl
theorem JV (rows:List (List (Int × Int))):nx (sk rows)=true:=tP fun x hx=>by obtain ⟨r,_,rfl⟩:=List.mem_map.mp hx; exact GO r
theorem CY {rows:List (List (Int × Int))} {m w:Nat} (h:Tbl rows m w) (hm:1≤m∧m≤7) (hw:1≤w∧w≤7):vp (sk rows)=true∧nx (sk rows)=true:=by
 have hs:fR (sk rows)=true:=by
   simp only [sk,fR,List.length_map,h.1,Bool.and_eq_true,decide_eq_true_eq]; exact hm
 have hr:∀ r ∈ rows,o8 (vY r)=true:=fun r hr=>by
   obtain ⟨h1,h2⟩:=h.2 r hr
   unfold o8
   rw [Bool.and_eq_true]
   refine ⟨by simp only [vY,fR,List.length_map,h1,Bool.and_eq_true,decide_eq_true_eq]; exact hw,?_⟩
   simp only [vY,fS,List.all_map,List.all_eq_true]
   intro p hp
   have nu:=h2 p hp
   simp only [Function.comp,fr2,lV,rb,Bool.and_eq_true,decide_eq_true_eq]
   exact ⟨nu.low.pos,nu.low.cop⟩
 have hl:∀ r ∈ rows,eF (vY r)=w:=fun r hr=>by simp only [vY,eF,List.length_map]; exact (h.2 r hr).1
 refine ⟨?_,JV rows⟩
 unfold vp
 rw [hs,Bool.true_and,Bool.and_eq_true]
 refine ⟨by simp only [sk,fS,List.all_map,List.all_eq_true]; exact hr,?_⟩
 have hh:eF (hdT (sk rows))=w:=by
   cases rows with
   | nil=>have:=h.1; simp at this; omega
   | cons r rs=>exact hl r (List.mem_cons_self ..)
 rw [hh]
 simp only [sk,fS,List.all_map,List.all_eq_true]
 intro r hr'
 exact decide_eq_true (hl r hr')
theorem Es {n i:Nat} (h:i < n):L2.ixN n ((i:Nat):Int)=some i:=by
 unfold L2.ixN
 rw [if_pos (by omega),if_pos (by omega),Int.toNat_natCast]
structure Ch (cs:List Nat) (n:Nat):Prop where
 ne:cs ≠ []
 up:∀ (i j a b:Nat),cs[i]?=some a→cs[j]?=some b→i < j→a < b
 lt:∀ a ∈ cs,a < n
theorem Ch.len {cs:List Nat} {n:Nat} (h:Ch cs n):cs.length≤n:=by
 have key:∀ (i a:Nat),cs[i]?=some a→i≤a:=by
   intro i
   induction i with
   | zero=>intro a _; exact Nat.zero_le _
   | succ i ih=>
     intro a ha
     have hi:i < cs.length:=by have:=(List.getElem?_eq_some_iff.mp ha).1; omega
     have:=ih _ (List.getElem?_eq_getElem hi)
     have:=h.up i (i + 1) _ _ (List.getElem?_eq_getElem hi) ha (by omega)
     omega
 rcases Nat.eq_zero_or_pos cs.length with z | z
 · omega
 · have hl:cs.length - 1 < cs.length:=by omega
   have h1:=key _ _ (List.getElem?_eq_getElem hl)
   have h2:=h.lt _ (List.getElem_mem hl)
   omega
theorem ET {α:Type} {xs:List α} {i:Nat} {d:α} (h:i < xs.length):xs[i]?=some (xs.getD i d):=by
 rw [List.getD_eq_getElem?_getD,List.getElem?_eq_getElem h,Option.getD_some]
noncomputable def FQ (rows:List (List (Int × Int))) (w:Nat):List (List (Int × Int)):=(List.range w).map fun j=>rows.map fun r=>r.getD j (0,1)
theorem Tbl.turn {rows:List (List (Int × Int))} {m w:Nat} (h:Tbl rows m w):Tbl (FQ rows w) w m:=by
 refine ⟨by simp [FQ],fun r hr=>?_⟩
 obtain ⟨j,hj,rfl⟩:=List.mem_map.mp hr
 refine ⟨by rw [List.length_map,h.1],fun p hp=>?_⟩
 obtain ⟨r,hr',rfl⟩:=List.mem_map.mp hp
 have hj':j < r.length:=by rw [(h.2 r hr').1]; exact List.mem_range.mp hj
 exact (h.2 r hr').2 _ (List.mem_of_getElem? (ET hj'))
end Sv
namespace K50
open PySem PySem.Spec L2 Sv
noncomputable def lF0:List (List U→Sto→Rs U):=[]
noncomputable def ld0:List Md:=[]
noncomputable def lG0:List (List T→Ou T):=[]
noncomputable def lH0:List (List T→Ou T):=[]
noncomputable def lS0:List Str:=[]
noncomputable def ib:List S:=[.set (.nm 2) (.lst []),.ite (.cmp .ge (.bi .abs [(.var 0)]) (.op .pow (.cI 10) (.cI 18))) [.for (.nm 3) (.seq (.var 1)) [.mth .append (.var 2) [(.op .mod (.var 0) (.var 3))],.set (.nm 0) (.op .fdiv (.var 0) (.var 3))],.ret (.var 2)] [],.for (.tp [4,3]) (.enu (.var 1)) [.set (.nm 5) (.op .mod (.op .add (.op .add (.op .add (.op .mul (.var 0) (.cI 48271)) (.op .mul (.op .mul (.var 4) (.var 4)) (.cI 69621))) (.op .mul (.var 4) (.cI 16807))) (.cI 11)) (.cI 2147483647)),.mth .append (.var 2) [(.op .mod (.op .fdiv (.op .mod (.op .add (.op .add (.op .mul (.var 5) (.cI 40692)) (.var 0)) (.op .mul (.cI 31) (.var 4))) (.cI 2147483399)) (.cI 7)) (.var 3))]],.ret (.var 2)]
noncomputable def uT:Fn:=tab lF0
noncomputable def oE:List U→Sto→Rs U:=mk uT ib 2 6
noncomputable def wJ:FnT:=bw lG0
noncomputable def vJ:FnT:=bw lH0
noncomputable def v7:Nat→Md:=dU ld0
noncomputable def wI:Md:=⟨false,0,0⟩
noncomputable def oT:List T→Ou T:=mkT wJ vJ v7 ⟨false,0,0⟩ [2] ib 2 6
noncomputable def vU:List T→Ou T:=fun _=>.bad
noncomputable def lF1:List (List U→Sto→Rs U):=lF0++[oE]
noncomputable def ld1:List Md:=ld0++[wI]
noncomputable def lG1:List (List T→Ou T):=lG0++[oT]
noncomputable def lH1:List (List T→Ou T):=lH0++[vU]
noncomputable def lS1:List Str:=lS0++[("_law_numbers" : Str)]
theorem vd:cY lF1 ld1 lG1 lH1:=cY.nil.def ⟨false,0,0⟩ rfl [2] ib 2 6
noncomputable def kS:List S:=[.set (.nm 1) (.call 0 [(.var 0),(.lst [(.cI 8),(.cI 4),(.cI 4),(.cI 7),(.cI 7)])]),.ite (.cmp .eq (.ix (.var 1) (.cI 0)) (.cI 1)) [.ret (.tup [(.op .add (.cI 1) (.ix (.var 1) (.cI 3))),(.op .add (.cI 1) (.ix (.var 1) (.cI 4)))])] [],.ret (.tup [(.op .add (.cI 1) (.ix (.var 1) (.cI 1))),(.op .add (.cI 1) (.ix (.var 1) (.cI 2)))])]
noncomputable def Bt:Fn:=tab lF1
noncomputable def wY:List U→Sto→Rs U:=mk Bt kS 1 2
noncomputable def Bh:FnT:=bw lG1
noncomputable def Bj:FnT:=bw lH1
noncomputable def DA:Nat→Md:=dU ld1
noncomputable def DD:Md:=⟨false,0,0⟩
noncomputable def qv:List T→Ou T:=mkT Bh Bj DA ⟨false,0,0⟩ [] kS 1 2
noncomputable def B7:List T→Ou T:=fun _=>.bad
noncomputable def lF2:List (List U→Sto→Rs U):=lF1++[wY]
noncomputable def ld2:List Md:=ld1++[DD]
noncomputable def lG2:List (List T→Ou T):=lG1++[qv]
noncomputable def lH2:List (List T→Ou T):=lH1++[B7]
noncomputable def lS2:List Str:=lS1++[("_law_size" : Str)]
theorem B2:cY lF2 ld2 lG2 lH2:=vd.def ⟨false,0,0⟩ rfl [] kS 1 2
noncomputable def eJ:List S:=[.set (.nm 1) (.lst [(.comp [none] (.nm 0) (.seq (.var 0)) [] (.cI 0))]),.for (.nm 2) (.rng (.bi .len [(.var 0)])) [.set (.nm 3) (.lst [(.op .add (.comp [none] (.nm 0) (.rng (.var 2)) [] (.cI 0)) (.lst [(.cI 1)]))]),.for (.nm 4) (.seq (.sl (.var 0) (.op .add (.var 2) (.cI 1)) .cN)) [.set (.nm 5) (.lst []),.for (.nm 6) (.seq (.var 3)) [.ite (.var 4) [.mth .append (.var 5) [(.op .add (.var 6) (.lst [(.cI 0)]))]] [],.mth .append (.var 5) [(.op .add (.var 6) (.lst [(.cI 1)]))]],.set (.nm 3) (.var 5)],.set (.nm 1) (.op .add (.var 1) (.var 3))],.ret (.var 1)]
noncomputable def uW:Fn:=tab lF2
noncomputable def oB:List U→Sto→Rs U:=mk uW eJ 1 7
noncomputable def ao:FnT:=bw lG2
noncomputable def aF:FnT:=bw lH2
noncomputable def ar:Nat→Md:=dU ld2
noncomputable def wM:Md:=⟨false,0,0⟩
noncomputable def iM:List T→Ou T:=mkT ao aF ar ⟨false,0,0⟩ [5] eJ 1 7
noncomputable def wL:List T→Ou T:=fun _=>.bad
theorem rh (x0:T):iM [x0]=dh ⟨false,0,0⟩ (ySs ao aF ⟨ar,[5],0⟩ (aI [x0]) eJ [some x0,none,none,none,none,none,none] []):=cP rfl
noncomputable def lF3:List (List U→Sto→Rs U):=lF2++[oB]
noncomputable def ld3:List Md:=ld2++[wM]
noncomputable def lG3:List (List T→Ou T):=lG2++[iM]
noncomputable def lH3:List (List T→Ou T):=lH2++[wL]
noncomputable def lS3:List Str:=lS2++[("_law_options" : Str)]
theorem vB:cY lF3 ld3 lG3 lH3:=B2.def ⟨false,0,0⟩ rfl [5] eJ 1 7
noncomputable def gb:List S:=[.set (.nm 3) (.lst []),.set (.nm 4) (.comp [none] (.nm 0) (.rng (.var 2)) [] (.cB true)),.for (.nm 5) (.seq (.call 0 [(.var 0),(.comp [none] (.nm 0) (.rng (.var 1)) [] (.cI 5040))])) [.set (.nm 6) (.call 2 [(.var 4)]),.set (.nm 7) (.ix (.var 6) (.op .mod (.var 5) (.bi .len [(.var 6)]))),.mth .append (.var 3) [(.var 7)],.set (.nm 4) (.comp [none,none] (.tp [0,1]) (.zip (.var 4) (.var 7)) [] (.and (.var 0) (.cmp .eq (.var 1) (.cI 0))))],.ret (.var 3)]
noncomputable def AR:Fn:=tab lF3
noncomputable def sV:List U→Sto→Rs U:=mk AR gb 3 8
noncomputable def bq:FnT:=bw lG3
noncomputable def cA:FnT:=bw lH3
noncomputable def bF:Nat→Md:=dU ld3
noncomputable def AW:Md:=⟨false,0,0⟩
noncomputable def kK:List T→Ou T:=mkT bq cA bF ⟨false,0,0⟩ [3] gb 3 8
noncomputable def Ah:List T→Ou T:=fun _=>.bad
theorem tT (x0 x1 x2:T):kK [x0,x1,x2]=dh ⟨false,0,0⟩ (ySs bq cA ⟨bF,[3],0⟩ (aI [x0,x1,x2]) gb [some x0,some x1,some x2,none,none,none,none,none] []):=cP rfl
theorem la:bF 0=⟨false,0,0⟩:=rfl
theorem kU:bq 2=iM:=rfl
theorem g9:bF 2=⟨false,0,0⟩:=rfl
noncomputable def lF4:List (List U→Sto→Rs U):=lF3++[sV]
noncomputable def ld4:List Md:=ld3++[AW]
noncomputable def lG4:List (List T→Ou T):=lG3++[kK]
noncomputable def lH4:List (List T→Ou T):=lH3++[Ah]
noncomputable def lS4:List Str:=lS3++[("_law_stair" : Str)]
theorem Aa:cY lF4 ld4 lG4 lH4:=vB.def ⟨false,0,0⟩ rfl [3] gb 3 8
noncomputable def hZ:List S:=[.set (.nm 0) (.bi .abs [(.var 0)]),.set (.nm 1) (.bi .abs [(.var 1)]),.while (.cmp .gt (.var 1) (.cI 0)) [.set (.nm 2) (.op .mod (.var 0) (.var 1)),.set (.nm 0) (.var 1),.set (.nm 1) (.var 2)],.ret (.var 0)]
noncomputable def ve:Fn:=tab lF4
noncomputable def oH:List U→Sto→Rs U:=mk ve hZ 2 3
noncomputable def vP:FnT:=bw lG4
noncomputable def wW:FnT:=bw lH4
noncomputable def wH:Nat→Md:=dU ld4
noncomputable def va:Md:=⟨false,0,0⟩
noncomputable def oO:List T→Ou T:=mkT vP wW wH ⟨false,0,0⟩ [] hZ 2 3
noncomputable def wG:List T→Ou T:=fun _=>.bad
noncomputable def lF5:List (List U→Sto→Rs U):=lF4++[oH]
noncomputable def ld5:List Md:=ld4++[va]
noncomputable def lG5:List (List T→Ou T):=lG4++[oO]
noncomputable def lH5:List (List T→Ou T):=lH4++[wG]
noncomputable def lS5:List Str:=lS4++[("_law_divisor" : Str)]
theorem vA:cY lF5 ld5 lG5 lH5:=Aa.def ⟨false,0,0⟩ rfl [] hZ 2 3
noncomputable def kG:List S:=[.set (.nm 2) (.call 4 [(.var 0),(.var 1)]),.ret (.tup [(.op .fdiv (.var 0) (.var 2)),(.op .fdiv (.var 1) (.var 2))])]
noncomputable def BB:Fn:=tab lF5
noncomputable def wg:List U→Sto→Rs U:=mk BB kG 2 3
noncomputable def A8:FnT:=bw lG5
noncomputable def BG:FnT:=bw lH5
noncomputable def Ba:Nat→Md:=dU ld5
noncomputable def DB:Md:=⟨false,0,0⟩
noncomputable def wO:List T→Ou T:=mkT A8 BG Ba ⟨false,0,0⟩ [] kG 2 3
noncomputable def BD:List T→Ou T:=fun _=>.bad
noncomputable def lF6:List (List U→Sto→Rs U):=lF5++[wg]
noncomputable def ld6:List Md:=ld5++[DB]
noncomputable def lG6:List (List T→Ou T):=lG5++[wO]
noncomputable def lH6:List (List T→Ou T):=lH5++[BD]
noncomputable def lS6:List Str:=lS5++[("_law_made" : Str)]
theorem Bc:cY lF6 ld6 lG6 lH6:=vA.def ⟨false,0,0⟩ rfl [] kG 2 3
noncomputable def iT:List S:=[.ite (.cmp .eq (.var 0) (.cI 1)) [.ret (.tup [(.op .sub (.op .mod (.var 1) (.cI 5)) (.cI 2)),(.cI 1)])] [],.ite (.cmp .eq (.var 0) (.cI 3)) [.set (.nm 2) (.op .mul (.op .mod (.op .fdiv (.var 1) (.cI 2)) (.op .pow (.cI 10) (.cI 40))) (.op .sub (.cI 1) (.op .mul (.cI 2) (.op .mod (.var 1) (.cI 2))))),.ret (.call 5 [(.var 2),(.op .add (.cI 1) (.op .mod (.op .fdiv (.var 1) (.op .mul (.cI 2) (.op .pow (.cI 10) (.cI 40)))) (.op .sub (.op .pow (.cI 10) (.cI 40)) (.cI 1))))])] [],.ite (.cmp .eq (.var 0) (.cI 2)) [.ret (.call 5 [(.op .mod (.var 1) (.cI 10)),(.op .add (.cI 1) (.op .mod (.op .fdiv (.var 1) (.cI 10)) (.cI 6)))])] [],.ret (.call 5 [(.op .sub (.op .mod (.var 1) (.cI 19)) (.cI 9)),(.op .add (.cI 1) (.op .mod (.op .fdiv (.var 1) (.cI 19)) (.cI 6)))])]
noncomputable def x9:Fn:=tab lF6
noncomputable def qp:List U→Sto→Rs U:=mk x9 iT 2 3
noncomputable def xU:FnT:=bw lG6
noncomputable def yI:FnT:=bw lH6
noncomputable def yL:Nat→Md:=dU ld6
noncomputable def yf:Md:=⟨false,0,0⟩
noncomputable def qo:List T→Ou T:=mkT xU yI yL ⟨false,0,0⟩ [] iT 2 3
noncomputable def yc:List T→Ou T:=fun _=>.bad
noncomputable def lF7:List (List U→Sto→Rs U):=lF6++[qp]
noncomputable def ld7:List Md:=ld6++[yf]
noncomputable def lG7:List (List T→Ou T):=lG6++[qo]
noncomputable def lH7:List (List T→Ou T):=lH6++[yc]
noncomputable def lS7:List Str:=lS6++[("_law_number" : Str)]
theorem xF:cY lF7 ld7 lG7 lH7:=Bc.def ⟨false,0,0⟩ rfl [] iT 2 3
noncomputable def jV:List S:=[.set (.nm 4) (.ix (.lst [(.cI 114),(.cI 5),(.cI 60),(.op .mul (.op .mul (.cI 2) (.op .pow (.cI 10) (.cI 40))) (.op .pow (.cI 10) (.cI 40)))]) (.var 3)),.set (.nm 5) (.call 0 [(.var 0),(.comp [none,some 4] (.nm 0) (.rng (.op .mul (.var 1) (.var 2))) [] (.var 1))]),.ret (.comp [none,some 3,some 5,some 2] (.nm 0) (.rng (.var 1)) [] (.comp [none,some 0,some 1,some 2,some 3] (.nm 0) (.rng (.var 3)) [] (.call 6 [(.var 2),(.ix (.var 3) (.op .add (.op .mul (.var 4) (.var 1)) (.var 0)))])))]
noncomputable def Ak:Fn:=tab lF7
noncomputable def sN:List U→Sto→Rs U:=mk Ak jV 4 6
noncomputable def nz:FnT:=bw lG7
noncomputable def sT:FnT:=bw lH7
noncomputable def sW:Nat→Md:=dU ld7
noncomputable def A0:Md:=⟨false,0,0⟩
noncomputable def nL:List T→Ou T:=mkT nz sT sW ⟨false,0,0⟩ [] jV 4 6
noncomputable def Aw:List T→Ou T:=fun _=>.bad
noncomputable def lF8:List (List U→Sto→Rs U):=lF7++[sN]
noncomputable def ld8:List Md:=ld7++[A0]
noncomputable def lG8:List (List T→Ou T):=lG7++[nL]
noncomputable def lH8:List (List T→Ou T):=lH7++[Aw]
noncomputable def lS8:List Str:=lS7++[("_law_table" : Str)]
theorem A3:cY lF8 ld8 lG8 lH8:=xF.def ⟨false,0,0⟩ rfl [] jV 4 6
noncomputable def kN:List S:=[.ite (.cmp .lt (.var 1) (.bi .len [(.var 0)])) [.ret (.ix (.var 0) (.var 1))] [],.ret (.cI 0)]
noncomputable def A7:Fn:=tab lF8
noncomputable def vw:List U→Sto→Rs U:=mk A7 kN 2 2
noncomputable def CV:FnT:=bw lG8
noncomputable def BX:FnT:=bw lH8
noncomputable def B4:Nat→Md:=dU ld8
noncomputable def CF:Md:=⟨false,0,0⟩
noncomputable def ql:List T→Ou T:=mkT CV BX B4 ⟨false,0,0⟩ [] kN 2 2
noncomputable def BP:List T→Ou T:=fun _=>.bad
noncomputable def lF9:List (List U→Sto→Rs U):=lF8++[vw]
noncomputable def ld9:List Md:=ld8++[CF]
noncomputable def lG9:List (List T→Ou T):=lG8++[ql]
noncomputable def lH9:List (List T→Ou T):=lH8++[BP]
noncomputable def lS9:List Str:=lS8++[("_law_cell" : Str)]
theorem Dw:cY lF9 ld9 lG9 lH9:=A3.def ⟨false,0,0⟩ rfl [] kN 2 2
noncomputable def fF:List S:=[.set (.nm 2) (.comp [none] (.nm 0) (.seq (.var 0)) [] (.bi .list [(.var 0)])),.set (.nm 3) (.op .mod (.ix (.var 1) (.cI 1)) (.bi .len [(.var 0)])),.set (.nm 4) (.op .mod (.ix (.var 1) (.cI 2)) (.bi .len [(.ix (.var 0) (.cI 0))])),.ite (.cmp .lt (.ix (.var 1) (.cI 0)) (.cI 8)) [.put (.ix (.var 2) (.var 3)) (.var 4) (.ix (.lst [(.cI 2),(.neg (.cI 1)),(.cB true),(.cB false),(.cS "1"),.cN,(.tup [(.cI 1),(.cI 1)]),(.lst [(.cI 1)])]) (.ix (.var 1) (.cI 0)))] [.ite (.cmp .lt (.ix (.var 1) (.cI 0)) (.cI 13)) [.put (.var 2) (.var 3) (.ix (.lst [(.op .add (.ix (.var 2) (.var 3)) (.lst [(.cI 1)])),(.sl (.ix (.var 2) (.var 3)) (.cI 1) .cN),(.bi .tuple [(.ix (.var 2) (.var 3))]),(.lst []),.cN]) (.op .sub (.ix (.var 1) (.cI 0)) (.cI 8)))] [.ite (.cmp .lt (.ix (.var 1) (.cI 0)) (.cI 16)) [.set (.nm 2) (.ix (.lst [(.bi .tuple [(.var 2)]),(.comp [none] (.nm 0) (.seq (.var 2)) [] (.op .add (.var 0) (.lst [(.cI 0),(.cI 0),(.cI 0),(.cI 0),(.cI 0),(.cI 0),(.cI 0)]))),(.op .mul (.var 2) (.cI 8))]) (.op .sub (.ix (.var 1) (.cI 0)) (.cI 13)))] [.set (.nm 2) (.ix (.lst [(.lst []),(.lst [(.lst [])]),.cN,(.cI 7),(.cB true),(.cS "1"),(.tup []),(.lst [(.cI 1),(.cI 1)])]) (.op .sub (.ix (.var 1) (.cI 0)) (.cI 16)))]]],.ret (.var 2)]
noncomputable def yh:Fn:=tab lF9
noncomputable def qu:List U→Sto→Rs U:=mk yh fF 2 5
noncomputable def aN:FnT:=bw lG9
noncomputable def bV:FnT:=bw lH9
noncomputable def aX:Nat→Md:=dU ld9
noncomputable def yF:Md:=⟨false,0,0⟩
noncomputable def jx:List T→Ou T:=mkT aN bV aX ⟨false,0,0⟩ [2] fF 2 5
noncomputable def xR:List T→Ou T:=fun _=>.bad
theorem so (x0 x1:T):jx [x0,x1]=dh ⟨false,0,0⟩ (ySs aN bV ⟨aX,[2],0⟩ (aI [x0,x1]) fF [some x0,some x1,none,none,none] []):=cP rfl
noncomputable def EK:List (List U→Sto→Rs U):=lF9++[qu]
noncomputable def IK:List Md:=ld9++[yF]
noncomputable def JC:List (List T→Ou T):=lG9++[jx]
noncomputable def Ik:List (List T→Ou T):=lH9++[xR]
noncomputable def JZ:List Str:=lS9++[("_law_spoilt" : Str)]
theorem xv:cY EK IK JC Ik:=Dw.def ⟨false,0,0⟩ rfl [2] fF 2 5
noncomputable def fy:List S:=[.ite (.isi (.var 0) .list) [.ret (.comp [none] (.nm 0) (.seq (.var 0)) [] (.ite (.isi (.var 0) .list) (.bi .list [(.var 0)]) (.var 0)))] [],.ret (.var 0)]
noncomputable def xi:Fn:=tab EK
noncomputable def qC:List U→Sto→Rs U:=mk xi fy 1 1
noncomputable def fZ:FnT:=bw JC
noncomputable def p6:FnT:=bw Ik
noncomputable def qX:Nat→Md:=dU IK
noncomputable def xo:Md:=⟨false,0,0⟩
noncomputable def jf:List T→Ou T:=mkT fZ p6 qX ⟨false,0,0⟩ [] fy 1 1
noncomputable def yy:List T→Ou T:=fun _=>.bad
theorem rJ (x0:T):jf [x0]=dh ⟨false,0,0⟩ (ySs fZ p6 ⟨qX,[],0⟩ (aI [x0]) fy [some x0] []):=cP rfl
noncomputable def Ey:List (List U→Sto→Rs U):=EK++[qC]
noncomputable def HD:List Md:=IK++[xo]
noncomputable def IJ:List (List T→Ou T):=JC++[jf]
noncomputable def JY:List (List T→Ou T):=Ik++[yy]
noncomputable def HJ:List Str:=JZ++[("_law_copied" : Str)]
theorem xW:cY Ey HD IJ JY:=xv.def ⟨false,0,0⟩ rfl [] fy 1 1
noncomputable def eu:List S:=[.ret (.and (.isi (.var 0) .list) (.chain .le .le (.cI 1) (.bi .len [(.var 0)]) (.cI 7)))]
noncomputable def pf:Fn:=tab Ey
noncomputable def jX:List U→Sto→Rs U:=mk pf eu 1 1
noncomputable def pj:FnT:=bw IJ
noncomputable def ph:FnT:=bw JY
noncomputable def o3:Nat→Md:=dU HD
noncomputable def pB:Md:=⟨false,0,0⟩
noncomputable def jY:List T→Ou T:=mkT pj ph o3 ⟨false,0,0⟩ [] eu 1 1
noncomputable def pq:List T→Ou T:=fun _=>.bad
noncomputable def DU:List (List U→Sto→Rs U):=Ey++[jX]
noncomputable def He:List Md:=HD++[pB]
noncomputable def ID:List (List T→Ou T):=IJ++[jY]
noncomputable def Ib:List (List T→Ou T):=JY++[pq]
noncomputable def HL:List Str:=HJ++[("is_short_list" : Str)]
theorem pz:cY DU He ID Ib:=xW.def ⟨false,0,0⟩ rfl [] eu 1 1
noncomputable def eG:List S:=[.ret (.comp [none,some 1] (.nm 0) (.seq (.var 0)) [] (.ix (.var 0) (.var 1)))]
noncomputable def uU:Fn:=tab DU
noncomputable def oQ:List U→Sto→Rs U:=mk uU eG 2 2
noncomputable def kg:FnT:=bw ID
noncomputable def oI:FnT:=bw Ib
noncomputable def oP:Nat→Md:=dU He
noncomputable def vS:Md:=⟨false,0,0⟩
noncomputable def gJ:List T→Ou T:=mkT kg oI oP ⟨false,0,0⟩ [] eG 2 2
noncomputable def vt:List T→Ou T:=fun _=>.bad
theorem qj (x0 x1:T):gJ [x0,x1]=dh ⟨false,0,0⟩ (ySs kg oI ⟨oP,[],0⟩ (aI [x0,x1]) eG [some x0,some x1] []):=cP rfl
noncomputable def Fy:List (List U→Sto→Rs U):=DU++[oQ]
noncomputable def Gy:List Md:=He++[vS]
noncomputable def Hm:List (List T→Ou T):=ID++[gJ]
noncomputable def IT:List (List T→Ou T):=Ib++[vt]
noncomputable def Hu:List Str:=HL++[("column_of" : Str)]
theorem wU:cY Fy Gy Hm IT:=pz.def ⟨false,0,0⟩ rfl [] eG 2 2
noncomputable def cj:List S:=[.ret (.or (.cmp .nin (.cI 1) (.sl (.ix (.var 0) (.var 1)) .cN (.var 2))) (.cmp .nin (.cI 1) (.sl (.call 12 [(.var 0),(.var 2)]) .cN (.var 1))))]
noncomputable def qV:Fn:=tab Fy
noncomputable def kc:List U→Sto→Rs U:=mk qV cj 3 3
noncomputable def iB:FnT:=bw Hm
noncomputable def ke:FnT:=bw IT
noncomputable def j8:Nat→Md:=dU Gy
noncomputable def pS:Md:=⟨false,0,0⟩
noncomputable def fK:List T→Ou T:=mkT iB ke j8 ⟨false,0,0⟩ [] cj 3 3
noncomputable def pO:List T→Ou T:=fun _=>.bad
theorem mN (x0 x1 x2:T):fK [x0,x1,x2]=dh ⟨false,0,0⟩ (ySs iB ke ⟨j8,[],0⟩ (aI [x0,x1,x2]) cj [some x0,some x1,some x2] []):=cP rfl
theorem eW:iB 12=gJ:=rfl
noncomputable def Ef:List (List U→Sto→Rs U):=Fy++[kc]
noncomputable def HN:List Md:=Gy++[pS]
noncomputable def GY:List (List T→Ou T):=Hm++[fK]
noncomputable def FY:List (List T→Ou T):=IT++[pO]
noncomputable def GZ:List Str:=Hu++[("may_be_empty" : Str)]
theorem qF:cY Ef HN GY FY:=wU.def ⟨false,0,0⟩ rfl [] cj 3 3
noncomputable def cf:List S:=[.ret (.bi .all [(.comp [none,some 1,some 0] (.nm 0) (.rng (.bi .len [(.ix (.var 0) (.var 1))])) [] (.or (.cmp .eq (.ix (.ix (.var 2) (.var 1)) (.var 0)) (.cI 1)) (.call 13 [(.var 2),(.var 1),(.var 0)])))])]
noncomputable def nG:Fn:=tab Ef
noncomputable def i8:List U→Sto→Rs U:=mk nG cf 2 2
noncomputable def di:FnT:=bw GY
noncomputable def jc:FnT:=bw FY
noncomputable def je:Nat→Md:=dU HN
noncomputable def nJ:Md:=⟨false,0,0⟩
noncomputable def eK:List T→Ou T:=mkT di jc je ⟨false,0,0⟩ [] cf 2 2
noncomputable def oA:List T→Ou T:=fun _=>.bad
theorem kW (x0 x1:T):eK [x0,x1]=dh ⟨false,0,0⟩ (ySs di jc ⟨je,[],0⟩ (aI [x0,x1]) cf [some x0,some x1] []):=cP rfl
theorem gF:di 13=fK:=rfl
noncomputable def Ej:List (List U→Sto→Rs U):=Ef++[i8]
noncomputable def IU:List Md:=HN++[nJ]
noncomputable def HA:List (List T→Ou T):=GY++[eK]
noncomputable def JE:List (List T→Ou T):=FY++[oA]
noncomputable def Gu:List Str:=GZ++[("is_well_filled" : Str)]
theorem nA:cY Ej IU HA JE:=qF.def ⟨false,0,0⟩ rfl [] cf 2 2
noncomputable def iO:List S:=[.ret (.and (.isi (.var 0) .int) (.not (.isi (.var 0) .bool)))]
noncomputable def xI:Fn:=tab Ej
noncomputable def qh:List U→Sto→Rs U:=mk xI iO 1 1
noncomputable def xJ:FnT:=bw HA
noncomputable def yn:FnT:=bw JE
noncomputable def xO:Nat→Md:=dU IU
noncomputable def xG:Md:=⟨false,0,0⟩
noncomputable def qP:List T→Ou T:=mkT xJ yn xO ⟨false,0,0⟩ [] iO 1 1
noncomputable def yd:List T→Ou T:=fun _=>.bad
noncomputable def DK:List (List U→Sto→Rs U):=Ej++[qh]
noncomputable def Ga:List Md:=IU++[xG]
noncomputable def IV:List (List T→Ou T):=HA++[qP]
noncomputable def IP:List (List T→Ou T):=JE++[yd]
noncomputable def HF:List Str:=Gu++[("is_whole" : Str)]
theorem x5:cY DK Ga IV IP:=nA.def ⟨false,0,0⟩ rfl [] iO 1 1
noncomputable def bu:List S:=[.ret (.and (.call 15 [(.var 0)]) (.chain .le .le (.var 1) (.var 0) (.var 2)))]
noncomputable def ud:Fn:=tab DK
noncomputable def mL:List U→Sto→Rs U:=mk ud bu 3 3
noncomputable def cv:FnT:=bw IV
noncomputable def mP:FnT:=bw IP
noncomputable def mS:Nat→Md:=dU Ga
noncomputable def tO:Md:=⟨false,0,0⟩
noncomputable def ie:List T→Ou T:=mkT cv mP mS ⟨false,0,0⟩ [] bu 3 3
noncomputable def tW:List T→Ou T:=fun _=>.bad
theorem oW (x0 x1 x2:T):ie [x0,x1,x2]=dh ⟨false,0,0⟩ (ySs cv mP ⟨mS,[],0⟩ (aI [x0,x1,x2]) bu [some x0,some x1,some x2] []):=cP rfl
noncomputable def D7:List (List U→Sto→Rs U):=DK++[mL]
noncomputable def Jd:List Md:=Ga++[tO]
noncomputable def GX:List (List T→Ou T):=IV++[ie]
noncomputable def JI:List (List T→Ou T):=IP++[tW]
noncomputable def Gi:List Str:=HF++[("is_between" : Str)]
theorem uQ:cY D7 Jd GX JI:=x5.def ⟨false,0,0⟩ rfl [] bu 3 3
noncomputable def bW:List S:=[.ret (.and (.call 11 [(.var 0)]) (.bi .all [(.comp [none] (.nm 0) (.seq (.var 0)) [] (.call 16 [(.var 0),(.cI 0),(.cI 1)]))]))]
noncomputable def mG:Fn:=tab D7
noncomputable def iV:List U→Sto→Rs U:=mk mG bW 1 1
noncomputable def dW:FnT:=bw GX
noncomputable def iJ:FnT:=bw JI
noncomputable def iK:Nat→Md:=dU Jd
noncomputable def mO:Md:=⟨false,0,0⟩
noncomputable def dY:List T→Ou T:=mkT dW iJ iK ⟨false,0,0⟩ [] bW 1 1
noncomputable def mK:List T→Ou T:=fun _=>.bad
theorem kj (x0:T):dY [x0]=dh ⟨false,0,0⟩ (ySs dW iJ ⟨iK,[],0⟩ (aI [x0]) bW [some x0] []):=cP rfl
theorem gO:dW 16=ie:=rfl
noncomputable def FI:List (List U→Sto→Rs U):=D7++[iV]
noncomputable def Jf:List Md:=Jd++[mO]
noncomputable def GI:List (List T→Ou T):=GX++[dY]
noncomputable def JH:List (List T→Ou T):=JI++[mK]
noncomputable def HZ:List Str:=Gi++[("is_row_of_marks" : Str)]
theorem nj:cY FI Jf GI JH:=uQ.def ⟨false,0,0⟩ rfl [] bW 1 1
noncomputable def cM:List S:=[.ite (.or (.not (.call 11 [(.var 0)])) (.not (.bi .all [(.comp [none] (.nm 0) (.seq (.var 0)) [] (.call 17 [(.var 0)]))]))) [.ret (.cB false)] [],.ite (.not (.bi .all [(.comp [none,some 0] (.nm 0) (.seq (.var 0)) [] (.cmp .eq (.bi .len [(.var 0)]) (.bi .len [(.ix (.var 1) (.cI 0))])))])) [.ret (.cB false)] [],.ret (.bi .all [(.comp [none,some 0] (.nm 0) (.rng (.bi .len [(.var 0)])) [] (.call 14 [(.var 1),(.var 0)]))])]
noncomputable def qb:Fn:=tab FI
noncomputable def kr:List U→Sto→Rs U:=mk qb cM 1 1
noncomputable def bD:FnT:=bw GI
noncomputable def kz:FnT:=bw JH
noncomputable def j9:Nat→Md:=dU Jf
noncomputable def pQ:Md:=⟨false,0,0⟩
noncomputable def dt:List T→Ou T:=mkT bD kz j9 ⟨false,0,0⟩ [] cM 1 1
noncomputable def qH:List T→Ou T:=fun _=>.bad
theorem iS (x0:T):dt [x0]=dh ⟨false,0,0⟩ (ySs bD kz ⟨j9,[],0⟩ (aI [x0]) cM [some x0] []):=cP rfl
theorem gG:bD 14=eK:=rfl
theorem fV:bD 17=dY:=rfl
noncomputable def Ff:List (List U→Sto→Rs U):=FI++[kr]
noncomputable def JB:List Md:=Jf++[pQ]
noncomputable def JJ:List (List T→Ou T):=GI++[dt]
noncomputable def Je:List (List T→Ou T):=JH++[qH]
noncomputable def IZ:List Str:=HZ++[("is_staircase" : Str)]
theorem pV:cY Ff JB JJ Je:=nj.def ⟨false,0,0⟩ rfl [] cM 1 1
noncomputable def dX:List S:=[.set (.nm 2) (.bi .abs [(.var 0)]),.set (.nm 3) (.bi .abs [(.var 1)]),.while (.cmp .ne (.var 3) (.cI 0)) [.set (.nm 4) (.op .mod (.var 2) (.var 3)),.set (.nm 2) (.var 3),.set (.nm 3) (.var 4)],.ret (.var 2)]
noncomputable def nW:Fn:=tab Ff
noncomputable def i4:List U→Sto→Rs U:=mk nW dX 2 5
noncomputable def nH:FnT:=bw JJ
noncomputable def nV:FnT:=bw Je
noncomputable def ox:Nat→Md:=dU JB
noncomputable def nN:Md:=⟨false,0,0⟩
noncomputable def iZ:List T→Ou T:=mkT nH nV ox ⟨false,0,0⟩ [] dX 2 5
noncomputable def ow:List T→Ou T:=fun _=>.bad
noncomputable def Ei:List (List U→Sto→Rs U):=Ff++[i4]
noncomputable def Hq:List Md:=JB++[nN]
noncomputable def GQ:List (List T→Ou T):=JJ++[iZ]
noncomputable def GD:List (List T→Ou T):=Je++[ow]
noncomputable def IG:List Str:=IZ++[("common_divisor" : Str)]
theorem nU:cY Ei Hq GQ GD:=pV.def ⟨false,0,0⟩ rfl [] dX 2 5
noncomputable def fP:List S:=[.ite (.or (.not (.isi (.var 0) .tuple)) (.cmp .ne (.bi .len [(.var 0)]) (.cI 2))) [.ret (.cB false)] [],.ite (.or (.not (.call 15 [(.ix (.var 0) (.cI 0))])) (.not (.call 15 [(.ix (.var 0) (.cI 1))]))) [.ret (.cB false)] [],.ret (.and (.cmp .ge (.ix (.var 0) (.cI 1)) (.cI 1)) (.cmp .eq (.call 19 [(.ix (.var 0) (.cI 0)),(.ix (.var 0) (.cI 1))]) (.cI 1)))]
noncomputable def rl:Fn:=tab Ei
noncomputable def lx:List U→Sto→Rs U:=mk rl fP 1 1
noncomputable def lq:FnT:=bw GQ
noncomputable def rT:FnT:=bw GD
noncomputable def rK:Nat→Md:=dU Hq
noncomputable def rL:Md:=⟨false,0,0⟩
noncomputable def lC:List T→Ou T:=mkT lq rT rK ⟨false,0,0⟩ [] fP 1 1
noncomputable def rF:List T→Ou T:=fun _=>.bad
noncomputable def EL:List (List U→Sto→Rs U):=Ei++[lx]
noncomputable def JO:List Md:=Hq++[rL]
noncomputable def Ir:List (List T→Ou T):=GQ++[lC]
noncomputable def Hb:List (List T→Ou T):=GD++[rF]
noncomputable def GW:List Str:=IG++[("is_fraction" : Str)]
theorem sm:cY EL JO Ir Hb:=nU.def ⟨false,0,0⟩ rfl [] fP 1 1
noncomputable def kP:List S:=[.ret (.and (.call 11 [(.var 0)]) (.bi .all [(.comp [none] (.nm 0) (.seq (.var 0)) [] (.call 20 [(.var 0)]))]))]
noncomputable def Bq:Fn:=tab EL
noncomputable def vF:List U→Sto→Rs U:=mk Bq kP 1 1
noncomputable def Dr:FnT:=bw Ir
noncomputable def DC:FnT:=bw Hb
noncomputable def By:Nat→Md:=dU JO
noncomputable def Dh:Md:=⟨false,0,0⟩
noncomputable def vz:List T→Ou T:=mkT Dr DC By ⟨false,0,0⟩ [] kP 1 1
noncomputable def A6:List T→Ou T:=fun _=>.bad
noncomputable def DR:List (List U→Sto→Rs U):=EL++[vF]
noncomputable def Hh:List Md:=JO++[Dh]
noncomputable def JP:List (List T→Ou T):=Ir++[vz]
noncomputable def JW:List (List T→Ou T):=Hb++[A6]
noncomputable def J1:List Str:=GW++[("is_row" : Str)]
theorem Be:cY DR Hh JP JW:=sm.def ⟨false,0,0⟩ rfl [] kP 1 1
noncomputable def iP:List S:=[.ite (.or (.not (.call 11 [(.var 0)])) (.not (.bi .all [(.comp [none] (.nm 0) (.seq (.var 0)) [] (.call 21 [(.var 0)]))]))) [.ret (.cB false)] [],.ret (.bi .all [(.comp [none,some 0] (.nm 0) (.seq (.var 0)) [] (.cmp .eq (.bi .len [(.var 0)]) (.bi .len [(.ix (.var 1) (.cI 0))])))])]
noncomputable def xT:Fn:=tab DR
noncomputable def qM:List U→Sto→Rs U:=mk xT iP 1 1
noncomputable def xu:FnT:=bw JP
noncomputable def yA:FnT:=bw JW
noncomputable def yK:Nat→Md:=dU Hh
noncomputable def xP:Md:=⟨false,0,0⟩
noncomputable def lQ:List T→Ou T:=mkT xu yA yK ⟨false,0,0⟩ [] iP 1 1
noncomputable def ye:List T→Ou T:=fun _=>.bad
noncomputable def Fv:List (List U→Sto→Rs U):=DR++[qM]
noncomputable def Jy:List Md:=Hh++[xP]
noncomputable def Jx:List (List T→Ou T):=JP++[lQ]
noncomputable def GH:List (List T→Ou T):=JW++[ye]
noncomputable def GU:List Str:=J1++[("is_table" : Str)]
theorem yr:cY Fv Jy Jx GH:=Be.def ⟨false,0,0⟩ rfl [] iP 1 1
noncomputable def dN:List S:=[.ite (.not (.call 22 [(.var 0)])) [.nev] []]
noncomputable def ue:Fn:=tab Fv
noncomputable def nq:List U→Sto→Rs U:=mk ue dN 1 1
noncomputable def jO:FnT:=bw Jx
noncomputable def ny:FnT:=bw GH
noncomputable def mf:Nat→Md:=dU Jy
noncomputable def uJ:Md:=⟨false,0,0⟩
noncomputable def hV:List T→Ou T:=mkT jO ny mf ⟨false,0,0⟩ [] dN 1 1
noncomputable def ur:List T→Ou T:=fun _=>.bad
theorem pv (x0:T):hV [x0]=dh ⟨false,0,0⟩ (ySs jO ny ⟨mf,[],0⟩ (aI [x0]) dN [some x0] []):=cP rfl
theorem j0:jO 22=lQ:=rfl
noncomputable def DZ:List (List U→Sto→Rs U):=Fv++[nq]
noncomputable def Hg:List Md:=Jy++[uJ]
noncomputable def IB:List (List T→Ou T):=Jx++[hV]
noncomputable def Hy:List (List T→Ou T):=GH++[ur]
noncomputable def Jm:List Str:=GU++[("look_table" : Str)]
theorem tQ:cY DZ Hg IB Hy:=yr.def ⟨false,0,0⟩ rfl [] dN 1 1
noncomputable def fB:List S:=[.ret (.comp [none] (.nm 0) (.seq (.var 0)) [] (.ite (.cmp .eq (.ix (.var 0) (.cI 0)) (.cI 0)) (.cI 0) (.cI 1)))]
noncomputable def xC:Fn:=tab DZ
noncomputable def qS:List U→Sto→Rs U:=mk xC fB 1 1
noncomputable def lJ:FnT:=bw IB
noncomputable def qZ:FnT:=bw Hy
noncomputable def lF:Nat→Md:=dU Hg
noncomputable def xZ:Md:=⟨false,1,0⟩
noncomputable def jI:List T→Ou T:=mkT lJ qZ lF ⟨false,1,0⟩ [] fB 1 1
noncomputable def xQ:List T→Ou T:=fun _=>.bad
theorem rZ (x0:T):jI [x0]=dh ⟨false,1,0⟩ (ySs lJ qZ ⟨lF,[],1⟩ (aI [x0]) fB [some x0] []):=cP rfl
noncomputable def DJ:List (List U→Sto→Rs U):=DZ++[qS]
noncomputable def HI:List Md:=Hg++[xZ]
noncomputable def HS:List (List T→Ou T):=IB++[jI]
noncomputable def Gx:List (List T→Ou T):=Hy++[xQ]
noncomputable def JK:List Str:=Jm++[("marks_in" : Str)]
theorem xh:cY DJ HI HS Gx:=tQ.def ⟨false,1,0⟩ rfl [] fB 1 1
noncomputable def fA:List S:=[.expr (.call 23 [(.var 0)]),.ret (.comp [none] (.nm 0) (.seq (.var 0)) [] (.call 24 [(.var 0)]))]
noncomputable def xr:Fn:=tab DJ
noncomputable def p8:List U→Sto→Rs U:=mk xr fA 1 1
noncomputable def fY:FnT:=bw HS
noncomputable def lU:FnT:=bw Gx
noncomputable def gj:Nat→Md:=dU HI
noncomputable def yw:Md:=⟨false,2,0⟩
noncomputable def jl:List T→Ou T:=mkT fY lU gj ⟨false,2,0⟩ [] fA 1 1
noncomputable def yB:List T→Ou T:=fun _=>.bad
theorem rp (x0:T):jl [x0]=dh ⟨false,2,0⟩ (ySs fY lU ⟨gj,[],2⟩ (aI [x0]) fA [some x0] []):=cP rfl
theorem j4:fY 23=hV:=rfl
theorem j5:gj 23=⟨false,0,0⟩:=rfl
theorem lb:fY 24=jI:=rfl
theorem kX:gj 24=⟨false,1,0⟩:=rfl
noncomputable def ED:List (List U→Sto→Rs U):=DJ++[p8]
noncomputable def JA:List Md:=HI++[yw]
noncomputable def Jv:List (List T→Ou T):=HS++[jl]
noncomputable def GB:List (List T→Ou T):=Gx++[yB]
noncomputable def Gh:List Str:=JK++[("marks_of" : Str)]
theorem xw:cY ED JA Jv GB:=xh.def ⟨false,2,0⟩ rfl [] fA 1 1
noncomputable def jn:List S:=[.ret (.and (.isi (.var 0) .int) (.not (.isi (.var 0) .bool)))]
noncomputable def AQ:Fn:=tab ED
noncomputable def sO:List U→Sto→Rs U:=mk AQ jn 1 1
noncomputable def Ao:FnT:=bw Jv
noncomputable def An:FnT:=bw GB
noncomputable def Ap:Nat→Md:=dU JA
noncomputable def Ad:Md:=⟨false,0,0⟩
noncomputable def oo:List T→Ou T:=mkT Ao An Ap ⟨false,0,0⟩ [] jn 1 1
noncomputable def AE:List T→Ou T:=fun _=>.bad
noncomputable def EX:List (List U→Sto→Rs U):=ED++[sO]
noncomputable def GA:List Md:=JA++[Ad]
noncomputable def Im:List (List T→Ou T):=Jv++[oo]
noncomputable def Ht:List (List T→Ou T):=GB++[AE]
noncomputable def Il:List Str:=Gh++[("_law_whole" : Str)]
theorem Ay:cY EX GA Im Ht:=xw.def ⟨false,0,0⟩ rfl [] jn 1 1
noncomputable def dk:List S:=[.for (.nm 1) (.seq (.var 0)) [.ite (.not (.bi .all [(.comp [none] (.nm 0) (.seq (.var 1)) [] (.call 26 [(.var 0)]))])) [.ret (.cB false)] []],.ret (.cB true)]
noncomputable def rq:Fn:=tab EX
noncomputable def lu:List U→Sto→Rs U:=mk rq dk 1 2
noncomputable def cZ:FnT:=bw Im
noncomputable def e7:FnT:=bw Ht
noncomputable def e6:Nat→Md:=dU GA
noncomputable def rm:Md:=⟨true,0,0⟩
noncomputable def gp:List T→Ou T:=mkT cZ e7 e6 ⟨true,0,0⟩ [] dk 1 2
noncomputable def sv:List T→Ou T:=fun _=>.bad
theorem nP (x0:T):gp [x0]=dh ⟨true,0,0⟩ (ySs cZ e7 ⟨e6,[],0⟩ (aI [x0]) dk [some x0,none] []):=cP rfl
theorem j3:cZ 26=oo:=rfl
noncomputable def Fh:List (List U→Sto→Rs U):=EX++[lu]
noncomputable def IA:List Md:=GA++[rm]
noncomputable def Gk:List (List T→Ou T):=Im++[gp]
noncomputable def IE:List (List T→Ou T):=Ht++[sv]
noncomputable def Ie:List Str:=Il++[("_law_all_whole" : Str)]
theorem rz:cY Fh IA Gk IE:=Ay.def ⟨true,0,0⟩ rfl [] dk 1 2
noncomputable def dj:List S:=[.for (.nm 1) (.rng (.bi .len [(.var 0)])) [.for (.nm 2) (.rng (.bi .len [(.ix (.var 0) (.cI 0))])) [.ite (.and (.cmp .eq (.ix (.ix (.var 0) (.var 1)) (.var 2)) (.cI 0)) (.and (.cmp .gt (.bi .sum [(.sl (.ix (.var 0) (.var 1)) .cN (.var 2))]) (.cI 0)) (.cmp .gt (.bi .sum [(.comp [none,some 2] (.nm 0) (.seq (.sl (.var 0) .cN (.var 1))) [] (.ix (.var 0) (.var 1)))]) (.cI 0)))) [.ret (.cB false)] []]],.ret (.cB true)]
noncomputable def su:Fn:=tab Fh
noncomputable def lA:List U→Sto→Rs U:=mk su dj 1 3
noncomputable def aU:FnT:=bw Gk
noncomputable def cx:FnT:=bw IE
noncomputable def cw:Nat→Md:=dU IA
noncomputable def rk:Md:=⟨false,0,0⟩
noncomputable def eO:List T→Ou T:=mkT aU cx cw ⟨false,0,0⟩ [] dj 1 3
noncomputable def rV:List T→Ou T:=fun _=>.bad
theorem nM (x0:T):eO [x0]=dh ⟨false,0,0⟩ (ySs aU cx ⟨cw,[],0⟩ (aI [x0]) dj [some x0,none,none] []):=cP rfl
noncomputable def E8:List (List U→Sto→Rs U):=Fh++[lA]
noncomputable def IX:List Md:=IA++[rk]
noncomputable def Io:List (List T→Ou T):=Gk++[eO]
noncomputable def HK:List (List T→Ou T):=IE++[rV]
noncomputable def Jn:List Str:=Ie++[("_law_is_stairs" : Str)]
theorem se:cY E8 IX Io HK:=rz.def ⟨false,0,0⟩ rfl [] dj 1 3
noncomputable def i6:List S:=[.ite (.or (.not (.isi (.var 0) .list)) (.not (.chain .le .le (.cI 1) (.bi .len [(.var 0)]) (.cI 7)))) [.ret (.cB false)] [],.for (.nm 1) (.seq (.var 0)) [.ite (.or (.not (.isi (.var 1) .list)) (.or (.not (.chain .le .le (.cI 1) (.bi .len [(.var 1)]) (.cI 7))) (.cmp .ne (.bi .len [(.var 1)]) (.bi .len [(.ix (.var 0) (.cI 0))])))) [.ret (.cB false)] [],.ite (.not (.bi .all [(.comp [none] (.nm 0) (.seq (.var 1)) [] (.and (.call 26 [(.var 0)]) (.chain .le .le (.cI 0) (.var 0) (.cI 1))))])) [.ret (.cB false)] []],.ret (.call 28 [(.var 0)])]
noncomputable def D8:Fn:=tab E8
noncomputable def yR:List U→Sto→Rs U:=mk D8 i6 1 2
noncomputable def br:FnT:=bw Io
noncomputable def gu:FnT:=bw HK
noncomputable def gz:Nat→Md:=dU IX
noncomputable def DY:Md:=⟨false,0,0⟩
noncomputable def kO:List T→Ou T:=mkT br gu gz ⟨false,0,0⟩ [] i6 1 2
noncomputable def E2:List T→Ou T:=fun _=>.bad
theorem xY (x0:T):kO [x0]=dh ⟨false,0,0⟩ (ySs br gu ⟨gz,[],0⟩ (aI [x0]) i6 [some x0,none] []):=cP rfl
theorem kZ:br 28=eO:=rfl
noncomputable def FH:List (List U→Sto→Rs U):=E8++[yR]
noncomputable def Ge:List Md:=IX++[DY]
noncomputable def GR:List (List T→Ou T):=Io++[kO]
noncomputable def Iz:List (List T→Ou T):=HK++[E2]
noncomputable def Kg:List Str:=Jn++[("_law_due" : Str)]
theorem Fi:cY FH Ge GR Iz:=se.def ⟨false,0,0⟩ rfl [] i6 1 2
noncomputable def nE:List S:=[.set (.tp [1,2]) (.call 1 [(.call 8 [(.var 0),(.cI 0)])]),.set (.nm 3) (.call 3 [(.call 8 [(.var 0),(.cI 1)]),(.var 1),(.var 2)]),.set (.nm 4) (.call 0 [(.call 8 [(.var 0),(.cI 2)]),(.op .add (.lst [(.cI 24),(.cI 7),(.cI 7),(.cI 3)]) (.comp [none] (.nm 0) (.rng (.op .mul (.var 1) (.var 2))) [] (.cI 2)))]),.set (.nm 5) (.lst [(.var 3),(.call 9 [(.var 3),(.var 4)])]),.mth .append (.var 5) [(.comp [none,some 4,some 2] (.nm 0) (.rng (.var 1)) [] (.sl (.var 1) (.op .add (.cI 4) (.op .mul (.var 2) (.var 0))) (.op .add (.cI 4) (.op .mul (.var 2) (.op .add (.var 0) (.cI 1))))))],.for (.nm 6) (.seq (.var 5)) [.set (.nm 7) (.call 10 [(.var 6)]),.set (.nm 8) (.call 18 [(.var 7)]),.ite (.or (.not (.isi (.var 8) .bool)) (.or (.cmp .ne (.var 8) (.call 29 [(.var 6)])) (.cmp .ne (.var 7) (.var 6)))) [.ret (.cB false)] []],.set (.nm 9) (.call 7 [(.call 8 [(.var 0),(.cI 3)]),(.var 1),(.var 2),(.ix (.lst [(.cI 0),(.cI 1),(.cI 2)]) (.ix (.var 4) (.cI 3)))]),.set (.nm 10) (.comp [none] (.nm 0) (.seq (.var 9)) [] (.comp [none] (.nm 0) (.seq (.var 0)) [] (.bi .int [(.cmp .ne (.ix (.var 0) (.cI 0)) (.cI 0))]))),.for (.nm 11) (.rng (.cI 2)) [.set (.nm 8) (.call 25 [(.var 9)]),.ite (.or (.not (.isi (.var 8) .list)) (.or (.cmp .ne (.var 8) (.var 10)) (.not (.bi .all [(.comp [none] (.nm 0) (.seq (.var 8)) [] (.isi (.var 0) .list))])))) [.ret (.cB false)] [],.ite (.not (.call 27 [(.var 8)])) [.ret (.cB false)] [],.mth .append (.ix (.var 8) (.cI 0)) [(.cI 1)],.mth .append (.var 8) [(.lst [])]],.ret (.cB true)]
noncomputable def Ll:Fn:=tab FH
noncomputable def wB:List U→Sto→Rs U:=mk Ll nE 1 12
noncomputable def aY:FnT:=bw GR
noncomputable def dZ:FnT:=bw Iz
noncomputable def bG:Nat→Md:=dU Ge
noncomputable def Ld:Md:=⟨false,0,0⟩
noncomputable def CL:List T→Ou T:=mkT aY dZ bG ⟨false,0,0⟩ [5,8] nE 1 12
noncomputable def KY:List T→Ou T:=fun _=>.bad
theorem B0 (x0:T):CL [x0]=dh ⟨false,0,0⟩ (ySs aY dZ ⟨bG,[5,8],0⟩ (aI [x0]) nE [some x0,none,none,none,none,none,none,none,none,none,none,none] []):=cP rfl
theorem tX:aY 1=qv:=rfl
theorem um:bG 1=⟨false,0,0⟩:=rfl
theorem rW:aY 3=kK:=rfl
theorem si:bG 3=⟨false,0,0⟩:=rfl
theorem pA:bG 0=⟨false,0,0⟩:=rfl
theorem rN:aY 7=nL:=rfl
theorem rH:bG 7=⟨false,0,0⟩:=rfl
theorem uN:aY 8=ql:=rfl
theorem qK:aY 9=jx:=rfl
theorem pX:aY 10=jf:=rfl
theorem p9:bG 10=⟨false,0,0⟩:=rfl
theorem lX:aY 18=dt:=rfl
theorem iw:bG 18=⟨false,0,0⟩:=rfl
theorem rf:aY 25=jl:=rfl
theorem kh:bG 25=⟨false,2,0⟩:=rfl
theorem nk:aY 27=gp:=rfl
theorem ni:bG 27=⟨true,0,0⟩:=rfl
theorem vD:aY 29=kO:=rfl
noncomputable def LG:List (List U→Sto→Rs U):=FH++[wB]
noncomputable def L8:List Md:=Ge++[Ld]
noncomputable def L3:List (List T→Ou T):=GR++[CL]
noncomputable def LV:List (List T→Ou T):=Iz++[KY]
theorem Ln:cY LG L8 L3 LV:=Fi.def ⟨false,0,0⟩ rfl [5,8] nE 1 12
end K50
namespace K50
open PySem PySem.Spec L2 Sv
open Ev (D aZ bp ai)
theorem FA {Ψ:FnT} {i:Nat} (e:Ψ i=jY):JT Ψ i:=fun d h=>by rw [e]; exact AJ d h
theorem Ku {Ψ:FnT} {i:Nat} (e:Ψ i=qP):Iu Ψ i:=fun d h=>by rw [e]; exact qE d h
theorem KL {Ψ:FnT} {i:Nat} (e:Ψ i=oo):Iu Ψ i:=fun d h=>by rw [e]; exact qE d h
noncomputable def line (n:Nat) (F:Nat→T):T:=.lst ((List.range n).map F)
noncomputable def jL (m w:Nat) (F:Nat→Nat→T):T:=line m fun i=>line w (F i)
theorem mJ {n j:Nat} {F:Nat→T} (hj:j < n):zI (line n F) (.int (j:Nat))=.ok (F j):=dF (by rw [List.getElem?_map,List.getElem?_range hj]; rfl)
theorem i7 (n:Nat) (F:Nat→T):zB .len [line n F]=.ok (.int (n:Nat)):=by rw [line,dz,List.length_map,List.length_range]
theorem BF {n r:Nat} {F:Nat→T} (h:r≤n):pd ((List.range n).map F) none (some (r:Nat))=(List.range r).map F:=by
 unfold pd
 rw [HT.wC,HT.zv,List.length_map,List.length_range,List.drop_zero,← List.map_take,List.take_range]
 congr 2
 omega
theorem pE {n r:Nat} {F:Nat→T} (h:r≤n):zSl (line n F) none (some (r:Nat))=.ok (line r F):=by
 show Ou.ok (T.lst (pd ((List.range n).map F) none (some (r:Nat))))=_
 rw [BF h]
 rfl
theorem iX {Ψ:FnT} {n:Nat} {e:E} {τ:aC} {G:Nat→T} (h:yE Ψ e τ=.ok (line n G)):yIt Ψ (.seq e) τ=.ok ((List.range n).map G):=by
 rw [cb,h,Ou.aa,line,kb]
theorem ints_map (f:Nat→Int):∀ ks:List Nat,gY (ks.map fun k=>.int (f k))=some (ks.map f)
 | []=>rfl
 | k :: ks=>by rw [List.map_cons,gY,ints_map f ks]; rfl
noncomputable def gm (m w:Nat) (M:Nat→Nat→Int):T:=jL m w fun i j=>.int (M i j)
noncomputable def Bit (m w:Nat) (M:Nat→Nat→Int):Prop:=∀ i < m,∀ j < w,M i j=0∨M i j=1
noncomputable def one (f:Nat→Int) (n:Nat):Bool:=((List.range n).map f).any (· == 1)
theorem wm (f:Nat→Int) (n:Nat):zC .nin (.int 1) (line n fun k=>.int (f k))=some (!one f n):=by
 show (gY ((List.range n).map fun k=>.int (f k))).map _=_
 rw [ints_map]
 rfl
noncomputable def fil (M:Nat→Nat→Int) (i j:Nat):Bool:=decide (M i j=1) || !one (M i) j || !one (fun k=>M k j) i
noncomputable def fill (m w:Nat) (M:Nat→Nat→Int):Bool:=(List.range m).all fun i=>(List.range w).all fun j=>fil M i j
section
variable {m w:Nat} {M:Nat→Nat→Int}
theorem Am {i:Nat} {F:Nat→Nat→T} (hm:m≤7) (hi:i < w):gJ [jL m w F,.int (i:Nat)]=.ok (line m fun j=>F j i):=by
 have cp:yE kg (.comp [none,some 1] (.nm 0) (.seq (.var 0)) [] (.ix (.var 0) (.var 1))) [some (jL m w F),some (.int (i:Nat))]=.ok (line m fun j=>F j i):=by
   refine bz (xs:=(List.range m).map fun j=>line w (F j)) (by rw [cb,ag]; rfl) (by rw [List.length_map,List.length_range]; exact bJ hm) (bC _ fun j hj=>?_)
   simp only [ag,bX,bo,Ou.aa,ax,aw,dB,aj,List.getElem?_cons_zero,List.getElem?_cons_succ,List.set_cons_zero,List.map_cons,List.map_nil,List.nil_append,List.cons_append,Option.bind_some,Option.bind_none,Option.join_some,if_true,aj,mJ hi]
 rw [qj,eG,ah,aJ,cp]
 simp only [aB,fG,aO,Ou.aa,line]
theorem oj {i:Nat} {F:Nat→Nat→T} (hi:i < m):zI (jL m w F) (.int (i:Nat))=.ok (line w (F i)):=mJ (F:=fun i=>line w (F i)) hi
theorem Jh {i j:Nat} (hm:m≤7) (hi:i < m) (hj:j < w):fK [gm m w M,.int (i:Nat),.int (j:Nat)]=.ok (.bl (!one (M i) j || !one (fun k=>M k j) i)):=by
 have r:zI (gm m w M) (.int (i:Nat))=.ok (line w fun j=>.int (M i j)):=oj hi
 have c:gJ [gm m w M,.int (j:Nat)]=.ok (line m fun k=>.int (M k j)):=Am hm hj
 have s1:zSl (line w fun j=>.int (M i j)) none (some (j:Nat))=.ok (line j fun j=>.int (M i j)):=pE (by omega)
 have s2:zSl (line m fun k=>.int (M k j)) none (some (i:Nat))=.ok (line i fun k=>.int (M k j)):=pE (by omega)
 rw [mN]
 cases h:one (M i) j
 · simp only [cj,ag,oM,aM,bt,iW,bX,aL,pW,af,ae,aJ,ah,aB,aH,sP,az,bj,aO,Ou.aa,ax,List.getElem?_cons_zero,List.getElem?_cons_succ,Bool.true_or,Bool.not_false,kv,eW,r,c,s1,s2,wm,h]
 · simp only [cj,ag,oM,aM,bt,iW,bX,aL,pW,af,ae,aJ,ah,aB,aH,ll,az,bj,aO,Ou.aa,ax,List.getElem?_cons_zero,List.getElem?_cons_succ,Bool.false_or,Bool.not_true,kv,eW,r,c,s1,s2,wm,h]
theorem Fp {i:Nat} (hm:m≤7) (hw:w≤7) (hi:i < m):eK [gm m w M,.int (i:Nat)]=.ok (.bl ((List.range w).all fun j=>fil M i j)):=by
 have r:zI (gm m w M) (.int (i:Nat))=.ok (line w fun j=>.int (M i j)):=oj hi
 have hn:yE di (.bi .len [(.ix (.var 0) (.var 1))]) [some (gm m w M),some (.int (i:Nat))]=.ok (.int (w:Nat)):=by
   simp only [ag,bX,bA,af,ae,Ou.aa,ax,List.getElem?_cons_zero,List.getElem?_cons_succ,r,i7]
 have cp:yE di (.comp [none,some 1,some 0] (.nm 0) (.rng (.bi .len [(.ix (.var 0) (.var 1))])) [] (.or (.cmp .eq (.ix (.ix (.var 2) (.var 1)) (.var 0)) (.cI 1)) (.call 13 [(.var 2),(.var 1),(.var 0)]))) [some (gm m w M),some (.int (i:Nat))]=.ok (.lst ((List.range w).map fun j=>.bl (fil M i j))):=by
   refine bz (fH hn (by omega)) (by rw [List.length_map,List.length_range]; exact bJ hw) (bC _ fun j hj=>?_)
   have hj:=List.mem_range.mp hj
   have e:=mJ (F:=fun j=>T.int (M i j)) hj
   have y:=Jh (M:=M) hm hi hj
   by_cases h:M i j=1
   · simp only [ag,aM,bt,iW,bX,aL,af,ae,bo,sP,az,Ou.aa,ax,aw,dB,bP,aj,List.getElem?_cons_zero,List.getElem?_cons_succ,List.set_cons_zero,List.map_cons,List.map_nil,List.nil_append,List.cons_append,Option.bind_some,Option.bind_none,Option.join_some,Bool.true_or,if_true,decide_true,aj,r,e,h,decide_true,fil]
   · simp only [ag,aM,bt,iW,bX,aL,af,ae,bo,ll,az,Ou.aa,ax,aw,dB,bP,aj,List.getElem?_cons_zero,List.getElem?_cons_succ,List.set_cons_zero,List.map_cons,List.map_nil,List.nil_append,List.cons_append,Option.bind_some,Option.bind_none,Option.join_some,Bool.false_or,if_true,decide_false,aj,r,e,h,decide_false,gF,y,fil]
 have al:=ou (List.range w) fun j=>fil M i j
 rw [kW,cf,ah,aJ,bA,ae,cp]
 simp only [af,aB,bj,aO,Ou.aa,al]
end
end K50
namespace K50
open PySem PySem.Spec L2 Sv
open Ev (D aZ bp ai)
noncomputable def kY:T→Bool
 | .int i=>decide (0≤i) && decide (i≤1)
 | _=>false
noncomputable def jF (d:T):Bool:=fR d && fS kY d
noncomputable def isG (d:T):Bool:=fR d && fS jF d && fS (fun r=>decide (eF r=eF (hdT d))) d
theorem Jp (d:T) (h:nx d=true):ie [d,.int 0,.int 1]=.ok (.bl (kY d)):=by
 have hw:=Ku (Ψ:=cv) (i:=15) rfl d h
 rw [oW]
 cases d with
 | int i=>
   have hw:cv 15 [.int i]=.ok (.bl true):=hw
   by_cases h0:0≤i
   · simp only [bu,ag,cU,ee,aL,af,ae,aJ,ah,aB,jm,zf,az,bj,aO,Ou.aa,ax,eE,List.getElem?_cons_zero,List.getElem?_cons_succ,Bool.true_and,decide_true,true_and,hw,h0,decide_true,kY]
   · simp only [bu,ag,cU,ee,aL,af,ae,aJ,ah,aB,jm,yV,az,bj,aO,Ou.aa,ax,eE,List.getElem?_cons_zero,List.getElem?_cons_succ,Bool.false_and,decide_false,false_and,hw,h0,decide_false,kY]
 | exo c=>simp [nx] at h
 | bl b=>
   have hw:cv 15 [.bl b]=.ok (.bl false):=hw
   simp only [bu,ag,cU,ee,aL,af,ae,aJ,ah,aB,iC,bj,aO,Ou.aa,ax,List.getElem?_cons_zero,List.getElem?_cons_succ,hw,kY]
 | non=>
   have hw:cv 15 [.non]=.ok (.bl false):=hw
   simp only [bu,ag,cU,ee,aL,af,ae,aJ,ah,aB,iC,bj,aO,Ou.aa,ax,List.getElem?_cons_zero,List.getElem?_cons_succ,hw,kY]
 | str x=>
   have hw:cv 15 [.str x]=.ok (.bl false):=hw
   simp only [bu,ag,cU,ee,aL,af,ae,aJ,ah,aB,iC,bj,aO,Ou.aa,ax,List.getElem?_cons_zero,List.getElem?_cons_succ,hw,kY]
 | tup xs=>
   have hw:cv 15 [.tup xs]=.ok (.bl false):=hw
   simp only [bu,ag,cU,ee,aL,af,ae,aJ,ah,aB,iC,bj,aO,Ou.aa,ax,List.getElem?_cons_zero,List.getElem?_cons_succ,hw,kY]
 | lst xs=>
   have hw:cv 15 [.lst xs]=.ok (.bl false):=hw
   simp only [bu,ag,cU,ee,aL,af,ae,aJ,ah,aB,iC,bj,aO,Ou.aa,ax,List.getElem?_cons_zero,List.getElem?_cons_succ,hw,kY]
theorem nD {Ψ:FnT} {τ:aC} {e:E} {xs:List T} {p:T→Bool} (h:yE Ψ e τ=.ok (.lst (xs.map fun x=>.bl (p x)))):yE Ψ (.bi .all [e]) τ=.ok (.bl (xs.all p)):=by
 rw [bA,ae,h,Ou.aa,af,Ou.aa,Ou.aa,ou xs p]
theorem sD {Ψ ΨM:FnT} {μ:Nat→Md} {need:List Nat} {n:Nat} {τ:aC} {own:Own} {e:E} {b:Bool} {sc:Bool} (h:yE Ψ e τ=.ok (.bl b)):dh ⟨sc,0,0⟩ (ySs Ψ ΨM ⟨μ,need,0⟩ n [.ret e] τ own)=.ok (.bl b):=by
 rw [ah,aJ,h,Ou.aa,aO,Ou.aa,aB,bj]
theorem pU {Ψ:FnT} {τ:aC} {e e':E} {a b:Bool} (he:yE Ψ e τ=.ok (.bl a)) (he':a=true→yE Ψ e' τ=.ok (.bl b)):yE Ψ (.and e e') τ=.ok (.bl (a && b)):=by
 rw [ee,he,Ou.aa]
 cases a with
 | true=>rw [jm,he' rfl]; rfl
 | false=>rw [iC]; rfl
theorem ku {Ψ:FnT} {τ:aC} {e e':E} {a b:Bool} (he:yE Ψ e τ=.ok (.bl a)) (he':a=false→yE Ψ e' τ=.ok (.bl b)):yE Ψ (.or e e') τ=.ok (.bl (a || b)):=by
 rw [iW,he,Ou.aa]
 cases a with
 | true=>rw [sP]; rfl
 | false=>rw [ll,he' rfl]; rfl
theorem eM {Ψ:FnT} {τ:aC} {e:E} {a:Bool} (he:yE Ψ e τ=.ok (.bl a)):yE Ψ (.not e) τ=.ok (.bl (!a)):=by
 rw [gM,he,Ou.aa,gQ]
theorem aE {Ψ:FnT} {τ:aC} {i:Nat} {x:T} (h:ax τ i=.ok x):yE Ψ (.var i) τ=.ok x:=by rw [ag,h]
theorem jZ {Ψ:FnT} {f:Nat} {e:E} {d x:T} {τ:aC} (h:Ψ f [d]=.ok x) (he:yE Ψ e τ=.ok d):yE Ψ (.call f [e]) τ=.ok x:=by
 rw [aL,ae,he,Ou.aa,af,Ou.aa,Ou.aa,h]
theorem call2 {Ψ:FnT} {f:Nat} {e e':E} {d d' x:T} {τ:aC} (h:Ψ f [d,d']=.ok x) (he:yE Ψ e τ=.ok d) (he':yE Ψ e' τ=.ok d'):yE Ψ (.call f [e,e']) τ=.ok x:=by
 rw [aL,ae,he,Ou.aa,ae,he',Ou.aa,af,Ou.aa,Ou.aa,Ou.aa,h]
theorem Ls (d:T) (h:nx d=true):dY [d]=.ok (.bl (jF d)):=by
 have hs:=FA (Ψ:=dW) (i:=11) rfl d h
 rw [kj,bW]
 refine sD (pU (jZ hs (aE rfl)) fun hd=>?_)
 obtain ⟨x,xs,rfl,hl⟩:=fM hd
 refine nD (bz (xs:=x :: xs) (by rw [cb,ag]; rfl) (bJ hl) (jq (x :: xs) fun y hy=>?_))
 have b:=Jp y (qA h y hy)
 simp only [ag,aM,aL,af,ae,bo,Ou.aa,ax,aw,dB,aj,List.getElem?_cons_zero,List.set_cons_zero,List.map_cons,List.map_nil,List.nil_append,List.cons_append,Option.bind_none,if_true,aj,gO,b]
theorem mZ {d:T} (h:jF d=true):∃ xs:List Int,d=inT xs∧1≤xs.length∧xs.length≤7∧∀ x ∈ xs,x=0∨x=1:=by
 unfold jF at h
 rw [Bool.and_eq_true] at h
 obtain ⟨h1,h2⟩:=h
 cases d with
 | lst ys=>
   simp only [fR,Bool.and_eq_true,decide_eq_true_eq] at h1
   simp only [fS,List.all_eq_true] at h2
   have key:∀ zs:List T,(∀ y ∈ zs,kY y=true)→∃ xs:List Int,zs=xs.map T.int∧∀ x ∈ xs,x=0∨x=1:=by
     intro zs
     induction zs with
     | nil=>exact fun _=>⟨[],rfl,fun _ z=>by cases z⟩
     | cons y ys ih=>
       intro hz
       obtain ⟨xs,e,hx⟩:=ih fun z hz'=>hz z (List.mem_cons_of_mem _ hz')
       have hy:=hz y (List.mem_cons_self ..)
       cases y with
       | int i=>
         simp only [kY,Bool.and_eq_true,decide_eq_true_eq] at hy
         refine ⟨i :: xs,by rw [e,List.map_cons],fun x hx'=>?_⟩
         rcases List.mem_cons.mp hx' with rfl | hx'
         · omega
         · exact hx x hx'
       | _=>cases hy
   obtain ⟨xs,rfl,hx⟩:=key ys h2
   rw [List.length_map] at h1
   exact ⟨xs,rfl,h1.1,h1.2,hx⟩
 | _=>cases h1
theorem Br {d:T} (h:isG d=true):∃ (m w:Nat) (M:Nat→Nat→Int),(1≤m∧m≤7)∧(1≤w∧w≤7)∧Bit m w M∧d=gm m w M:=by
 unfold isG at h
 rw [Bool.and_eq_true,Bool.and_eq_true] at h
 obtain ⟨⟨h1,h2⟩,h3⟩:=h
 obtain ⟨x,xs,rfl,hl⟩:=fM h1
 simp only [fS,List.all_eq_true] at h2 h3
 obtain ⟨r0,rfl,l1,l7,b0⟩:=mZ (h2 x (List.mem_cons_self ..))
 have hh:eF (hdT (.lst (inT r0 :: xs)))=r0.length:=by simp only [hdT,eF,inT,List.length_map]
 have rows:∀ zs:List T,(∀ y ∈ zs,jF y=true∧eF y=r0.length)→∃ R:List (List Int),zs=R.map inT∧∀ r ∈ R,r.length=r0.length∧∀ x ∈ r,x=0∨x=1:=by
   intro zs
   induction zs with
   | nil=>exact fun _=>⟨[],rfl,fun _ z=>by cases z⟩
   | cons y ys ih=>
     intro hz
     obtain ⟨R,e,hR⟩:=ih fun z hz'=>hz z (List.mem_cons_of_mem _ hz')
     obtain ⟨hy1,hy2⟩:=hz y (List.mem_cons_self ..)
     obtain ⟨r,rfl,_,_,b⟩:=mZ hy1
     refine ⟨r :: R,by rw [e,List.map_cons],fun q hq=>?_⟩
     rcases List.mem_cons.mp hq with rfl | hq
     · simp only [eF,inT,List.length_map] at hy2
       exact ⟨hy2,b⟩
     · exact hR q hq
 obtain ⟨R,eR,hR⟩:=rows (inT r0 :: xs) fun y hy=>⟨h2 y hy,by have:=h3 y hy; rw [decide_eq_true_eq,hh] at this; exact this⟩
 rw [eR]
 have hm:1≤R.length∧R.length≤7:=by
   have:(inT r0 :: xs).length=R.length:=by rw [eR,List.length_map]
   rw [← this]
   exact ⟨by simp,hl⟩
 refine ⟨R.length,r0.length,fun i j=>(R.getD i []).getD j 0,hm,⟨l1,l7⟩,fun i hi j hj=>?_,?_⟩
 · have hr:=hR (R.getD i []) (by rw [List.getD_eq_getElem?_getD,List.getElem?_eq_getElem hi]; exact List.getElem_mem _)
   have hm':∀ q:List Int,j < q.length→q.getD j 0 ∈ q:=fun q hq=>by
     rw [List.getD_eq_getElem?_getD,List.getElem?_eq_getElem hq]
     exact List.getElem_mem _
   exact hr.2 _ (hm' _ (by rw [hr.1]; exact hj))
 · unfold gm jL line
   congr 1
   apply List.ext_getElem
   · simp
   · intro i h1 h2
     have hi:i < R.length:=by simpa using h1
     have hr:=hR R[i] (List.getElem_mem _)
     simp only [List.getElem_map,List.getElem_range,inT]
     congr 1
     apply List.ext_getElem
     · simp [hr.1]
     · intro j g1 g2
       have hj:j < R[i].length:=by simpa using g1
       simp [List.getD_eq_getElem?_getD,hi,hj]
end K50
namespace K50
open PySem PySem.Spec L2 Sv
open Ev (D aZ bp ai)
section
variable {Ψ ΨM:FnT} {μ:Nat→Md} {need:List Nat} {N:Nat} {τ τ':aC} {own own':Own} {s:S} {ss A:List S} {e:E} {b:Bool} {d:T}
theorem aT (h:yS Ψ ΨM ⟨μ,need,0⟩ N s τ own=.ok (.nx τ' own')):ySs Ψ ΨM ⟨μ,need,0⟩ N (s :: ss) τ own=ySs Ψ ΨM ⟨μ,need,0⟩ N ss τ' own':=by
 rw [ah,h,Ou.aa,aV]
theorem kn (h:yS Ψ ΨM ⟨μ,need,0⟩ N s τ own=.ok (.rt d)):ySs Ψ ΨM ⟨μ,need,0⟩ N (s :: ss) τ own=.ok (.rt d):=by
 rw [ah,h,Ou.aa,aB]
theorem lD (he:yE Ψ e τ=.ok (.bl false)):yS Ψ ΨM ⟨μ,need,0⟩ N (.ite e A []) τ []=.ok (.nx τ []):=by
 rw [bR,he,Ou.aa,dS,aD,aq]
theorem lh (he:yE Ψ e τ=.ok (.bl true)):yS Ψ ΨM ⟨μ,need,0⟩ N (.ite e [.ret (.cB false)] []) τ []=.ok (.rt (.bl false)):=by
 rw [bR,he,Ou.aa,dE,ah,aJ,g8,Ou.aa,aO,Ou.aa,aB]
end
theorem u6 (d:T) (h:nx d=true) {Ψ:FnT} {τ:aC} {i:Nat} (hi:ax τ i=.ok d):yE Ψ (.isi (.var i) .list) τ=.ok (.bl (isL d)):=by
 rw [gg,ag,hi,Ou.aa]
 cases d <;> first | rfl | (simp [nx] at h)
theorem yY {xs:List T} {Ψ:FnT} {τ:aC} {i:Nat} (hi:ax τ i=.ok (.lst xs)):yE Ψ (.chain .le .le (.cI 1) (.bi .len [(.var i)]) (.cI 7)) τ=.ok (.bl (fR (.lst xs))):=by
 by_cases h1:1≤xs.length
 · have h1':(1:Int)≤((xs.length:Nat):Int):=by omega
   simp only [cU,aM,bA,ae,af,ag,hi,Ou.aa,dz,eE,az,h1',decide_true,zf,fR,h1,Bool.true_and]
   congr 2
   exact decide_eq_decide.mpr (by omega)
 · have h1':¬ (1:Int)≤((xs.length:Nat):Int):=by omega
   simp only [cU,aM,bA,ae,af,ag,hi,Ou.aa,dz,eE,az,h1',decide_false,yV,fR,h1,Bool.false_and]
noncomputable def eA:E:=.or (.not (.call 11 [(.var 0)])) (.not (.bi .all [(.comp [none] (.nm 0) (.seq (.var 0)) [] (.call 17 [(.var 0)]))]))
noncomputable def eB:E:=.not (.bi .all [(.comp [none,some 0] (.nm 0) (.seq (.var 0)) [] (.cmp .eq (.bi .len [(.var 0)]) (.bi .len [(.ix (.var 1) (.cI 0))])))])
theorem FT (d:T) (h:nx d=true):yE bD eA [some d]=.ok (.bl (!fR d || !fS jF d)):=by
 refine ku (eM (jZ (FA (Ψ:=bD) (i:=11) rfl d h) (aE rfl))) fun hd=>eM ?_
 have hd:fR d=true:=by simpa using hd
 obtain ⟨x,xs,rfl,hl⟩:=fM hd
 refine nD (bz (xs:=x :: xs) (by rw [cb,ag]; rfl) (bJ hl) (kD fun y hy=>?_))
 rw [fV]
 exact Ls y (qA h y hy)
theorem FN {x:T} {xs:List T} (hl:(x :: xs).length≤7) (hr:∀ y ∈ x :: xs,jF y=true):yE bD eB [some (.lst (x :: xs))]=.ok (.bl (!(x :: xs).all fun r=>decide (eF r=eF x))):=by
 refine eM (nD (bz (xs:=x :: xs) (by rw [cb,ag]; rfl) (bJ hl) (jq (x :: xs) fun y hy=>?_)))
 obtain ⟨ys,rfl,_⟩:=mZ (hr y hy)
 obtain ⟨zs,rfl,_⟩:=mZ (hr x (List.mem_cons_self ..))
 have hx0:zI (.lst (inT zs :: xs)) (.int 0)=.ok (inT zs):=gX _ _
 unfold inT at hx0 ⊢
 simp only [ag,aM,bt,bX,bA,af,ae,bo,az,Ou.aa,ax,aw,dB,bP,dz,aj,List.getElem?_cons_zero,List.getElem?_cons_succ,List.set_cons_zero,List.map_cons,List.map_nil,List.nil_append,List.cons_append,Option.bind_some,Option.bind_none,Option.join_some,if_true,aj,hx0,eF]
 congr 3
 exact decide_eq_decide.mpr (by omega)
theorem zL:cM=[.ite eA [.ret (.cB false)] [],.ite eB [.ret (.cB false)] [],.ret (.bi .all [(.comp [none,some 0] (.nm 0) (.rng (.bi .len [(.var 0)])) [] (.call 14 [(.var 1),(.var 0)]))])]:=rfl
theorem J8 (d:T) (h:nx d=true) (hg:isG d=false):dt [d]=.ok (.bl false):=by
 rw [iS,zL]
 have a:=FT d h
 cases hA:(!fR d || !fS jF d) with
 | true=>rw [hA] at a; rw [kn (lh a),bj]
 | false=>
   rw [hA] at a
   rw [aT (lD a)]
   rw [Bool.or_eq_false_iff,Bool.not_eq_false',Bool.not_eq_false'] at hA
   obtain ⟨x,xs,rfl,hl⟩:=fM hA.1
   have hr:∀ y ∈ x :: xs,jF y=true:=by simpa only [fS,List.all_eq_true] using hA.2
   have b:=FN hl hr
   have:((x :: xs).all fun r=>decide (eF r=eF x))=false:=by
     unfold isG at hg
     rw [hA.1,hA.2,Bool.true_and] at hg
     exact hg
   rw [this] at b
   rw [kn (lh b),bj]
theorem Hz {m w:Nat} {M:Nat→Nat→Int} (hm:1≤m∧m≤7) (hw:w≤7) (h:nx (gm m w M)=true) (hg:isG (gm m w M)=true):dt [gm m w M]=.ok (.bl (fill m w M)):=by
 rw [iS,zL]
 have a:=FT _ h
 have hg':=hg
 unfold isG at hg'
 rw [Bool.and_eq_true,Bool.and_eq_true] at hg'
 rw [hg'.1.1,hg'.1.2] at a
 rw [aT (lD a)]
 have b:yE bD eB [some (gm m w M)]=.ok (.bl false):=by
   obtain ⟨x,xs,e,hl⟩:=fM hg'.1.1
   rw [e] at hg' ⊢
   have hr:∀ y ∈ x :: xs,jF y=true:=by simpa only [fS,List.all_eq_true] using hg'.1.2
   have b:=FN hl hr
   have:((x :: xs).all fun r=>decide (eF r=eF x))=true:=hg'.2
   rw [this] at b
   exact b
 rw [aT (lD b)]
 have hn:yE bD (.bi .len [(.var 0)]) [some (gm m w M)]=.ok (.int (m:Nat)):=by
   have:=i7 m fun i=>line w fun j=>.int (M i j)
   simp only [ag,bA,af,ae,Ou.aa,ax,List.getElem?_cons_zero,gm,jL,this]
 refine sD ?_
 have cp:yE bD (.comp [none,some 0] (.nm 0) (.rng (.bi .len [(.var 0)])) [] (.call 14 [(.var 1),(.var 0)])) [some (gm m w M)]=.ok (.lst ((List.range m).map fun i=>.bl ((List.range w).all fun j=>fil M i j))):=by
   refine bz (fH hn (by omega)) (by rw [List.length_map,List.length_range]; exact bJ hm.2) (bC _ fun i hi=>?_)
   have y:=Fp (M:=M) hm.2 hw (List.mem_range.mp hi)
   simp only [ag,aL,af,ae,bo,Ou.aa,ax,aw,dB,aj,List.getElem?_cons_zero,List.getElem?_cons_succ,List.set_cons_zero,List.map_cons,List.map_nil,List.nil_append,List.cons_append,Option.bind_some,Option.bind_none,Option.join_some,if_true,aj,gG,y]
 have al:=ou (List.range m) fun i=>(List.range w).all fun j=>fil M i j
 rw [bA,ae,cp,Ou.aa,af,Ou.aa,Ou.aa,al]
 rfl
end K50
namespace K50
open PySem PySem.Spec L2 Sv
open Ev (D aZ bp ai)
theorem tV {f:Nat→Int}:∀ (ks:List Nat),(∀ k ∈ ks,f k=0∨f k=1)→0≤(ks.map f).sum∧decide (0 < (ks.map f).sum)=(ks.map f).any (· == 1)
 | [],_=>⟨Int.le_refl 0,rfl⟩
 | k :: ks,h=>by
   obtain ⟨h1,h2⟩:=tV ks fun x hx=>h x (List.mem_cons_of_mem _ hx)
   rw [List.map_cons,List.sum_cons,List.any_cons,← h2]
   rcases h k (List.mem_cons_self ..) with e | e <;> rw [e]
   · exact ⟨by omega,by rw [Int.zero_add]; rfl⟩
   · refine ⟨by omega,?_⟩
     rw [decide_eq_true (by omega)]
     rfl
section
variable {m w:Nat} {M:Nat→Nat→Int}
noncomputable def eI:E:=.and (.cmp .eq (.ix (.ix (.var 0) (.var 1)) (.var 2)) (.cI 0)) (.and (.cmp .gt (.bi .sum [(.sl (.ix (.var 0) (.var 1)) .cN (.var 2))]) (.cI 0)) (.cmp .gt (.bi .sum [(.comp [none,some 2] (.nm 0) (.seq (.sl (.var 0) .cN (.var 1))) [] (.ix (.var 0) (.var 1)))]) (.cI 0)))
theorem KI {i j:Nat} (hm:m≤7) (hb:Bit m w M) (hi:i < m) (hj:j < w):yE aU eI [some (gm m w M),some (.int (i:Nat)),some (.int (j:Nat))]=.ok (.bl (!fil M i j)):=by
 have r:zI (gm m w M) (.int (i:Nat))=.ok (line w fun j=>.int (M i j)):=oj hi
 have e:=mJ (F:=fun j=>T.int (M i j)) hj
 have s1:zSl (line w fun j=>.int (M i j)) none (some (j:Nat))=.ok (line j fun j=>.int (M i j)):=pE (by omega)
 have s2:zSl (gm m w M) none (some (i:Nat))=.ok (line i fun i=>line w fun j=>.int (M i j)):=pE (F:=fun i=>line w fun j=>.int (M i j)) (by omega)
 have t1:zB .sum [line j fun j=>.int (M i j)]=.ok (.int ((List.range j).map (M i)).sum):=by
   show GF (gY ((List.range j).map fun k=>T.int (M i k)))=_
   rw [ints_map]
   rfl
 have t2:zB .sum [line i fun k=>.int (M k j)]=.ok (.int ((List.range i).map fun k=>M k j).sum):=by
   show GF (gY ((List.range i).map fun k=>T.int (M k j)))=_
   rw [ints_map fun k=>M k j]
   rfl
 have y1:yE aU (.cmp .eq (.ix (.ix (.var 0) (.var 1)) (.var 2)) (.cI 0)) [some (gm m w M),some (.int (i:Nat)),some (.int (j:Nat))]=.ok (.bl (decide (M i j=0))):=by
   simp only [ag,aM,bt,bX,az,Ou.aa,ax,bP,List.getElem?_cons_zero,List.getElem?_cons_succ,r,e]
 have y2:yE aU (.cmp .gt (.bi .sum [(.sl (.ix (.var 0) (.var 1)) .cN (.var 2))]) (.cI 0)) [some (gm m w M),some (.int (i:Nat)),some (.int (j:Nat))]=.ok (.bl (one (M i) j)):=by
   have o:=(tV (f:=M i) (List.range j) fun k hk=>hb i hi k (by have:=List.mem_range.mp hk; omega)).2
   simp only [ag,oM,aM,bt,bX,bA,pW,af,ae,aH,az,Ou.aa,ax,om,List.getElem?_cons_zero,List.getElem?_cons_succ,kv,r,s1,t1,o]
   rfl
 have cp:yE aU (.comp [none,some 2] (.nm 0) (.seq (.sl (.var 0) .cN (.var 1))) [] (.ix (.var 0) (.var 1))) [some (gm m w M),some (.int (i:Nat)),some (.int (j:Nat))]=.ok (line i fun k=>.int (M k j)):=by
   refine bz (iX (n:=i) (G:=fun i=>line w fun j=>.int (M i j)) ?_) (by rw [List.length_map,List.length_range]; exact bJ (by omega)) (bC _ fun k _=>?_)
   · simp only [ag,oM,pW,aH,Ou.aa,ax,List.getElem?_cons_zero,List.getElem?_cons_succ,kv,s2]
   · have e:=mJ (F:=fun j=>T.int (M k j)) hj
     simp only [ag,bX,bo,Ou.aa,ax,aw,dB,aj,List.getElem?_cons_zero,List.getElem?_cons_succ,List.set_cons_zero,List.map_cons,List.map_nil,List.nil_append,List.cons_append,Option.bind_some,Option.bind_none,Option.join_some,if_true,aj,e]
 have y3:yE aU (.cmp .gt (.bi .sum [(.comp [none,some 2] (.nm 0) (.seq (.sl (.var 0) .cN (.var 1))) [] (.ix (.var 0) (.var 1)))]) (.cI 0)) [some (gm m w M),some (.int (i:Nat)),some (.int (j:Nat))]=.ok (.bl (one (fun k=>M k j) i)):=by
   have o:=(tV (f:=fun k=>M k j) (List.range i) fun k hk=>hb k (by have:=List.mem_range.mp hk; omega) j hj).2
   simp only [aM,bt,bA,af,ae,az,Ou.aa,om,cp,t2,o]
   rfl
 rw [eI,pU y1 fun _=>pU y2 fun _=>y3]
 congr 2
 unfold fil
 rcases hb i hi j hj with h | h <;> rw [h]
 · cases one (M i) j <;> cases one (fun k=>M k j) i <;> rfl
 · cases one (M i) j <;> cases one (fun k=>M k j) i <;> rfl
noncomputable def inB:List S:=[.ite eI [.ret (.cB false)] []]
noncomputable def Dg:List S:=[.for (.nm 2) (.rng (.bi .len [(.ix (.var 0) (.cI 0))])) inB]
theorem zH {N i:Nat} (hm:m≤7) (hb:Bit m w M) (hi:i < m):∀ (js:List Nat) (r2:Option T),(∀ j ∈ js,j < w)→∃ r2',cT (cn aU cx ⟨cw,[],0⟩ N (.nm 2) inB) (js.map fun j=>.int (j:Nat)) [some (gm m w M),some (.int (i:Nat)),r2] []=if js.all (fil M i) then .ok (.nx [some (gm m w M),some (.int (i:Nat)),r2'] []) else .ok (.rt (.bl false))
 | [],r2,_=>⟨r2,by rw [List.map_nil,cL]; rfl⟩
 | j :: js,r2,h=>by
   obtain ⟨r2',e⟩:=zH hm hb hi js (some (.int (j:Nat))) fun k hk=>h k (List.mem_cons_of_mem _ hk)
   refine ⟨r2',?_⟩
   have c:=KI hm hb hi (h j (List.mem_cons_self ..))
   have t0:cn aU cx ⟨cw,[],0⟩ N (.nm 2) inB (.int (j:Nat)) [some (gm m w M),some (.int (i:Nat)),r2] []=ySs aU cx ⟨cw,[],0⟩ N inB [some (gm m w M),some (.int (i:Nat)),some (.int (j:Nat))] []:=by
     rw [cG]
     rfl
   rw [List.map_cons,bM,List.all_cons,t0,inB]
   cases hf:fil M i j with
   | true=>
     rw [hf] at c
     rw [aT (lD c),aD,Ou.aa,cR]
     exact e
   | false=>
     rw [hf] at c
     rw [kn (lh c)]
     rfl
theorem vq {N:Nat} (hm:m≤7) (hm0:1≤m) (hw:w≤7) (hb:Bit m w M):∀ (is:List Nat) (r1 r2:Option T),(∀ i ∈ is,i < m)→∃ r1' r2',cT (cn aU cx ⟨cw,[],0⟩ N (.nm 1) Dg) (is.map fun j=>.int (j:Nat)) [some (gm m w M),r1,r2] []=if is.all (fun i=>(List.range w).all (fil M i)) then .ok (.nx [some (gm m w M),r1',r2'] []) else .ok (.rt (.bl false))
 | [],r1,r2,_=>⟨r1,r2,by rw [List.map_nil,cL]; rfl⟩
 | i :: is,r1,r2,h=>by
   obtain ⟨r2',e⟩:=zH (N:=N) hm hb (h i (List.mem_cons_self ..)) (List.range w) r2 fun k hk=>List.mem_range.mp hk
   obtain ⟨s1,s2,e'⟩:=vq (N:=N) hm hm0 hw hb is (some (.int (i:Nat))) r2' fun k hk=>h k (List.mem_cons_of_mem _ hk)
   refine ⟨s1,s2,?_⟩
   have r:zI (gm m w M) (.int 0)=.ok (line w fun j=>.int (M 0 j)):=oj (i:=0) (by omega)
   have hn:yE aU (.bi .len [(.ix (.var 0) (.cI 0))]) [some (gm m w M),some (.int (i:Nat)),r2]=.ok (.int (w:Nat)):=by
     simp only [ag,aM,bX,bA,af,ae,Ou.aa,ax,List.getElem?_cons_zero,r,i7]
   have t0:cn aU cx ⟨cw,[],0⟩ N (.nm 1) Dg (.int (i:Nat)) [some (gm m w M),r1,r2] []=ySs aU cx ⟨cw,[],0⟩ N Dg [some (gm m w M),some (.int (i:Nat)),r2] []:=by
     rw [cG]
     rfl
   rw [List.map_cons,bM,List.all_cons,t0,Dg,ah,gW,fH hn (by omega),Ou.aa,aq,e]
   cases hf:(List.range w).all (fil M i) with
   | true=>
     rw [if_pos rfl,Ou.de,Ou.aa,aV,aD,Ou.aa,cR]
     exact e'
   | false=>rfl
theorem Ax (hm:1≤m∧m≤7) (hw:w≤7) (hb:Bit m w M):eO [gm m w M]=.ok (.bl (fill m w M)):=by
 obtain ⟨r1,r2,e⟩:=vq (N:=aI [gm m w M]) hm.2 hm.1 hw hb (List.range m) none none fun k hk=>List.mem_range.mp hk
 have hn:yE aU (.bi .len [(.var 0)]) [some (gm m w M),none,none]=.ok (.int (m:Nat)):=by
   have:=i7 m fun i=>line w fun j=>.int (M i j)
   simp only [ag,bA,af,ae,Ou.aa,ax,List.getElem?_cons_zero,gm,jL,this]
 rw [nM,show dj=[.for (.nm 1) (.rng (.bi .len [(.var 0)])) Dg,.ret (.cB true)] from rfl]
 rw [ah,gW,fH hn (by omega),Ou.aa,aq,e]
 show _=Ou.ok (T.bl ((List.range m).all fun i=>(List.range w).all (fil M i)))
 cases hf:(List.range m).all fun i=>(List.range w).all (fil M i) with
 | true=>
   rw [if_pos rfl,Ou.de,Ou.aa,aV]
   exact sD (by rw [g8])
 | false=>rfl
end
end K50
namespace K50
open PySem PySem.Spec L2 Sv
open Ev (D aZ bp ai)
noncomputable def eC:E:=.or (.not (.isi (.var 1) .list)) (.or (.not (.chain .le .le (.cI 1) (.bi .len [(.var 1)]) (.cI 7))) (.cmp .ne (.bi .len [(.var 1)]) (.bi .len [(.ix (.var 0) (.cI 0))])))
noncomputable def eD:E:=.not (.bi .all [(.comp [none] (.nm 0) (.seq (.var 1)) [] (.and (.call 26 [(.var 0)]) (.chain .le .le (.cI 0) (.var 0) (.cI 1))))])
noncomputable def lz:List S:=[.ite eC [.ret (.cB false)] [],.ite eD [.ret (.cB false)] []]
theorem LL (y:T) (h:nx y=true) {τ:aC}:jk br τ [none] (.nm 0) [] (.and (.call 26 [(.var 0)]) (.chain .le .le (.cI 0) (.var 0) (.cI 1))) y=.ok (some (.bl (kY y))):=by
 have hw:=KL (Ψ:=br) (i:=26) rfl y h
 have key:∀ r:aC,yE br (.and (.call 26 [(.var 0)]) (.chain .le .le (.cI 0) (.var 0) (.cI 1))) (some y :: r)=.ok (.bl (kY y)):=fun r=>by
   cases y with
   | int i=>
     have hw:br 26 [.int i]=.ok (.bl true):=hw
     rw [pU (b:=decide (0≤i) && decide (i≤1)) (jZ hw (aE rfl)) fun _=>?_]
     · rfl
     · by_cases h0:0≤i
       · simp only [ag,aM,cU,zf,az,Ou.aa,ax,eE,List.getElem?_cons_zero,Bool.true_and,decide_true,true_and,h0,decide_true]
       · simp only [ag,aM,cU,yV,az,Ou.aa,ax,eE,List.getElem?_cons_zero,Bool.false_and,decide_false,false_and,h0,decide_false]
   | exo c=>simp [nx] at h
   | _=>exact pU (b:=false) (jZ hw (aE rfl)) fun z=>by cases z
 simp only [aj,dB,aw,bo,Ou.aa,List.map_cons,List.map_nil,Option.bind_none,List.set_cons_zero,List.nil_append,List.cons_append,if_true,key]
theorem Ci {N:Nat} {rows ys:List T} (hr:zI (.lst rows) (.int 0)=.ok (.lst ys)) (x:T) (hx:nx x=true) (r:Option T):cn br gu ⟨gz,[],0⟩ N (.nm 1) lz x [some (.lst rows),r] []=if jF x && decide (eF x=ys.length) then .ok (.nx [some (.lst rows),some x] []) else .ok (.rt (.bl false)):=by
 have t0:cn br gu ⟨gz,[],0⟩ N (.nm 1) lz x [some (.lst rows),r] []=ySs br gu ⟨gz,[],0⟩ N lz [some (.lst rows),some x] []:=by
   rw [cG]
   rfl
 rw [t0,lz]
 have i1:=u6 (Ψ:=br) (τ:=[some (.lst rows),some x]) (i:=1) x hx rfl
 cases hL:isL x with
 | false=>
   have hr':jF x=false:=by cases x <;> first | rfl | cases hL
   rw [hL] at i1
   have c:yE br eC [some (.lst rows),some x]=.ok (.bl true):=ku (b:=true) (eM i1) fun z=>by cases z
   rw [kn (lh c),hr']
   rfl
 | true=>
   obtain ⟨zs,rfl⟩:∃ zs,x=.lst zs:=by cases x <;> first | exact ⟨_,rfl⟩ | cases hL
   rw [hL] at i1
   have l:yE br (.cmp .ne (.bi .len [(.var 1)]) (.bi .len [(.ix (.var 0) (.cI 0))])) [some (.lst rows),some (.lst zs)]=.ok (.bl (!decide (zs.length=ys.length))):=by
     simp only [ag,aM,bt,bX,bA,af,ae,az,Ou.aa,ax,dP,dz,List.getElem?_cons_zero,List.getElem?_cons_succ,hr]
     congr 3
     exact decide_eq_decide.mpr (by omega)
   have c:yE br eC [some (.lst rows),some (.lst zs)]=.ok (.bl (!fR (.lst zs) || !decide (zs.length=ys.length))):=by
     have:=ku (eM i1) fun _=>ku (eM (yY (Ψ:=br) (τ:=[some (.lst rows),some (.lst zs)]) (i:=1) rfl)) fun _=>l
     exact this
   cases hs:fR (.lst zs) with
   | false=>
     rw [hs] at c
     rw [kn (lh c),jF,hs]
     rfl
   | true=>
     have hl:zs.length≤7:=by
       simp only [fR,Bool.and_eq_true,decide_eq_true_eq] at hs
       exact hs.2
     have d:yE br eD [some (.lst rows),some (.lst zs)]=.ok (.bl (!zs.all kY)):=
       eM (nD (bz (xs:=zs) (by rw [cb,ag]; rfl) (bJ hl) (jq zs fun y hy=>LL y (qA hx y hy))))
     rw [hs] at c
     rw [jF,hs]
     show _=if (true && zs.all kY) && decide (zs.length=ys.length) then _ else _
     cases hq:decide (zs.length=ys.length) with
     | false=>
       rw [hq] at c
       rw [kn (lh c),Bool.and_false]
       rfl
     | true=>
       rw [hq] at c
       rw [aT (lD c)]
       cases ha:zs.all kY with
       | true=>rw [ha] at d; rw [aT (lD d),aD]; rfl
       | false=>rw [ha] at d; rw [kn (lh d)]; rfl
noncomputable def eH:E:=.or (.not (.isi (.var 0) .list)) (.not (.chain .le .le (.cI 1) (.bi .len [(.var 0)]) (.cI 7)))
theorem CD:i6=[.ite eH [.ret (.cB false)] [],.for (.nm 1) (.seq (.var 0)) lz,.ret (.call 28 [(.var 0)])]:=rfl
theorem EE (d:T) (h:nx d=true):(isG d=false∧kO [d]=.ok (.bl false))∨(isG d=true∧∀ b,eO [d]=.ok (.bl b)→kO [d]=.ok (.bl b)):=by
 have i0:=u6 (Ψ:=br) (τ:=[some d,none]) (i:=0) d h rfl
 rw [xY,CD]
 cases hL:isL d with
 | false=>
   have hg:isG d=false:=by cases d <;> first | rfl | cases hL
   rw [hL] at i0
   have c:yE br eH [some d,none]=.ok (.bl true):=ku (b:=true) (eM i0) fun z=>by cases z
   exact Or.inl ⟨hg,by rw [kn (lh c),bj]⟩
 | true=>
   obtain ⟨rows,rfl⟩:∃ zs,d=.lst zs:=by cases d <;> first | exact ⟨_,rfl⟩ | cases hL
   rw [hL] at i0
   have c:yE br eH [some (.lst rows),none]=.ok (.bl (!fR (.lst rows))):=ku (eM i0) fun _=>eM (yY (Ψ:=br) (τ:=[some (.lst rows),none]) (i:=0) rfl)
   cases hs:fR (.lst rows) with
   | false=>
     rw [hs] at c
     exact Or.inl ⟨by rw [isG,hs]; rfl,by rw [kn (lh c),bj]⟩
   | true=>
     rw [hs] at c
     obtain ⟨x,xs,hX,hl⟩:=fM hs
     cases hX
     have hnx:=qA h
     have key:∃ r',cT (cn br gu ⟨gz,[],0⟩ (aI [.lst (x :: xs)]) (.nm 1) lz) (x :: xs) [some (.lst (x :: xs)),none] []=if (x :: xs).all (fun y=>jF y && decide (eF y=eF x)) then .ok (.nx [some (.lst (x :: xs)),r'] []) else .ok (.rt (.bl false)):=by
       by_cases hl:isL x=true
       · obtain ⟨ys,rfl⟩:∃ ys,x=.lst ys:=by cases x <;> first | exact ⟨_,rfl⟩ | cases hl
         exact wd (E:=fun r=>[some (.lst (.lst ys :: xs)),r]) (.lst ys :: xs) none fun y hy r=>Ci (gX _ _) y (hnx y hy) r
       · have hxn:=hnx x (List.mem_cons_self ..)
         have hr:jF x=false:=by cases x <;> first | rfl | exact absurd rfl hl
         have i1:=u6 (Ψ:=br) (τ:=[some (.lst (x :: xs)),some x]) (i:=1) x hxn rfl
         rw [show isL x=false by simpa using hl] at i1
         have c:yE br eC [some (.lst (x :: xs)),some x]=.ok (.bl true):=ku (b:=true) (eM i1) fun z=>by cases z
         have t0:cn br gu ⟨gz,[],0⟩ (aI [.lst (x :: xs)]) (.nm 1) lz x [some (.lst (x :: xs)),none] []=.ok (.rt (.bl false)):=by
           rw [cG]
           show ySs br gu ⟨gz,[],0⟩ _ lz [some (.lst (x :: xs)),some x] []=_
           rw [lz,kn (lh c)]
         refine ⟨none,?_⟩
         rw [bM,t0,List.all_cons,hr]
         rfl
     obtain ⟨r',e⟩:=key
     rw [zb] at e
     have hg:isG (.lst (x :: xs))=((x :: xs).all jF && (x :: xs).all fun y=>decide (eF y=eF x)):=by
       unfold isG
       rw [hs]
       rfl
     have run:ySs br gu ⟨gz,[],0⟩ (aI [.lst (x :: xs)]) [.ite eH [.ret (.cB false)] [],.for (.nm 1) (.seq (.var 0)) lz,.ret (.call 28 [(.var 0)])] [some (.lst (x :: xs)),none] []=(Ou.noX (if ((x :: xs).all jF && (x :: xs).all fun y=>decide (eF y=eF x)) then .ok (.nx [some (.lst (x :: xs)),r'] []) else .ok (.rt (.bl false)))).bind fun r=>Ew r (ySs br gu ⟨gz,[],0⟩ (aI [.lst (x :: xs)]) [.ret (.call 28 [(.var 0)])]):=by
       rw [aT (lD c),ah,gW,show yIt br (.seq (.var 0)) [some (.lst (x :: xs)),none]=.ok (x :: xs) by rw [cb,ag]; rfl,Ou.aa,aq,e]
     rw [run]
     cases hf:((x :: xs).all jF && (x :: xs).all fun y=>decide (eF y=eF x)) with
     | false=>exact Or.inl ⟨by rw [hg,hf],rfl⟩
     | true=>
       refine Or.inr ⟨by rw [hg,hf],fun b hb=>?_⟩
       rw [← kZ] at hb
       rw [if_pos rfl,Ou.de,Ou.aa,aV]
       exact sD (jZ hb (aE rfl))
theorem same (d:T) (h:nx d=true):∃ b,dt [d]=.ok (.bl b)∧kO [d]=.ok (.bl b):=by
 rcases EE d h with ⟨hg,e⟩ | ⟨hg,e⟩
 · exact ⟨false,J8 d h hg,e⟩
 · obtain ⟨m,w,M,hm,hw,hb,rfl⟩:=Br hg
   exact ⟨fill m w M,Hz hm hw.2 h hg,e _ (Ax hm hw.2 hb)⟩
end K50
namespace K50
open PySem PySem.Spec L2 Sv
open Ev (D aZ bp ai)
theorem AL (d:T) (h:nx d=true) (hl:∀ xs,d=.lst xs→xs.length≤100):jf [d]=.ok d:=by
 have i0:=u6 (Ψ:=fZ) (τ:=[some d]) (i:=0) d h rfl
 rw [rJ,fy]
 cases hL:isL d with
 | false=>
   rw [hL] at i0
   rw [aT (lD i0),ah,aJ,aE (i:=0) rfl,Ou.aa,aO,Ou.aa,aB,fG]
 | true=>
   obtain ⟨xs,rfl⟩:∃ zs,d=.lst zs:=by cases d <;> first | exact ⟨_,rfl⟩ | cases hL
   rw [hL] at i0
   have cp:yE fZ (.comp [none] (.nm 0) (.seq (.var 0)) [] (.ite (.isi (.var 0) .list) (.bi .list [(.var 0)]) (.var 0))) [some (.lst xs)]=.ok (.lst (xs.map fun x=>x)):=by
     refine bz (xs:=xs) (by rw [cb,ag]; rfl) (Nat.lt_of_le_of_lt (hl xs rfl) (by decide)) (jq xs fun x hx=>?_)
     have key:∀ r:aC,yE fZ (.ite (.isi (.var 0) .list) (.bi .list [(.var 0)]) (.var 0)) (some x :: r)=.ok x:=fun r=>by
       have i1:=u6 (Ψ:=fZ) (τ:=some x :: r) (i:=0) x (qA h x hx) rfl
       rw [xj,i1,Ou.aa]
       cases hx':isL x with
       | false=>rw [dS,aE (i:=0) rfl]
       | true=>
         obtain ⟨zs,rfl⟩:∃ zs,x=.lst zs:=by cases x <;> first | exact ⟨_,rfl⟩ | cases hx'
         rw [dE,bA,ae,aE (i:=0) rfl,Ou.aa,af,Ou.aa,Ou.aa,sJ]
     simp only [aj,dB,aw,bo,Ou.aa,List.map_cons,List.map_nil,Option.bind_none,List.set_cons_zero,List.nil_append,List.cons_append,if_true,key]
   rw [List.map_id'] at cp
   rw [kn (d:=.lst xs) (by rw [bR,i0,Ou.aa,dE,aq,ah,aJ,cp,Ou.aa,aO,Ou.aa,aB]),fG]
noncomputable def RT (L:List (List Int)):T:=.lst (L.map inT)
noncomputable def Rk (k:Nat) (L:List (List Int)):Prop:=∀ r ∈ L,r.length=k∧∀ x ∈ r,x=0∨x=1
theorem Dq {f:List Int} (h:f.length≤7) (i:Int):z2 .add (inT f) (.lst [.int i])=.ok (inT (f++[i])):=by
 rw [inT,qL (by rw [List.length_map]; exact Nat.lt_of_le_of_lt (Nat.add_le_add_right h 1) (by decide)),inT,List.map_append]
 rfl
theorem CM {L:List (List Int)} (h:L.length < 1000) (g:List Int):zM .append (L.map inT) [inT g]=some ((L++[g]).map inT):=by
 rw [rg (by rw [List.length_map]; exact Nat.lt_of_lt_of_le h (by decide)),List.map_append]
 rfl
theorem Rk.snoc {k:Nat} {L:List (List Int)} {r:List Int} {x:Int} (h:Rk (k + 1) L) (hr:r.length=k∧∀ x ∈ r,x=0∨x=1) (hx:x=0∨x=1):Rk (k + 1) (L++[r++[x]]):=fun q hq=>by
 rcases List.mem_append.mp hq with hq | hq
 · exact h q hq
 · obtain rfl:=List.mem_singleton.mp hq
   refine ⟨by rw [List.length_append,hr.1]; rfl,fun y hy=>?_⟩
   rcases List.mem_append.mp hy with hy | hy
   · exact hr.2 y hy
   · obtain rfl:=List.mem_singleton.mp hy
     exact hx
noncomputable def oD:List S:=[.ite (.var 4) [.mth .append (.var 5) [(.op .add (.var 6) (.lst [(.cI 0)]))]] [],.mth .append (.var 5) [(.op .add (.var 6) (.lst [(.cI 1)]))]]
theorem ap5 {N:Nat} {a0 a1 a2 a3 a4:Option T} {L:List (List Int)} {r:List Int} (i:Int) (hr:r.length≤7) (hL:L.length < 1000):yS ao aF ⟨ar,[5],0⟩ N (.mth .append (.var 5) [(.op .add (.var 6) (.lst [(.cI i)]))]) [a0,a1,a2,a3,a4,some (RT L),some (inT r)] [(5,1)]=.ok (.nx [a0,a1,a2,a3,a4,some (RT (L++[r++[i]])),some (inT r)] [(5,1)]):=by
 have c:=Dq hr i
 have a:=CM hL (r++[i])
 unfold RT
 simp only [ag,aM,cJ,dq,af,ae,nO,aH,i9,aq,bf,jP,Ou.aa,ax,cg,nZ,gts,bQ,qO,List.getElem?_cons_zero,List.getElem?_cons_succ,List.set_cons_zero,List.set_cons_succ,List.lookup_cons,Option.getD_some,Bool.and_true,Bool.and_false,Bool.or_false,Bool.false_eq_true,if_true,if_false,beq_self_eq_true,Nat.reduceBEq,Nat.reduceLT,Nat.lt_irrefl,decide_false,and_true,and_false,Nat.reduceEqDiff,c,a]
theorem FZ {N k:Nat} {a0 a1 a2 a3 r6:Option T} {b:Bool} {L:List (List Int)} {r:List Int} (hk:k < 7) (hL:L.length + 2 < 1000) (h:Rk (k + 1) L) (hr:r.length=k∧∀ x ∈ r,x=0∨x=1):∃ L',Rk (k + 1) L'∧L.length + 1≤L'.length∧L'.length≤L.length + 2 ∧
   cn ao aF ⟨ar,[5],0⟩ N (.nm 6) oD (inT r) [a0,a1,a2,a3,some (.bl b),some (RT L),r6] [(5,1)]=.ok (.nx [a0,a1,a2,a3,some (.bl b),some (RT L'),some (inT r)] [(5,1)]):=by
 have t0:cn ao aF ⟨ar,[5],0⟩ N (.nm 6) oD (inT r) [a0,a1,a2,a3,some (.bl b),some (RT L),r6] [(5,1)]=ySs ao aF ⟨ar,[5],0⟩ N oD [a0,a1,a2,a3,some (.bl b),some (RT L),some (inT r)] [(5,1)]:=by
   rw [cG]
   rfl
 have g:dn (gU ar 2 (.var 4)) [(5,1)]=[(5,1)]:=by simp only [aq,bf,fO,gts,Bool.and_true,Bool.and_false,Bool.false_eq_true,if_false,Nat.reduceBEq,Nat.reduceLT,decide_false,and_true,and_false,Nat.reduceEqDiff]
 cases b with
 | true=>
   have s1:=ap5 (N:=N) (a0:=a0) (a1:=a1) (a2:=a2) (a3:=a3) (a4:=some (.bl true)) (L:=L) (r:=r) 0 (by omega) (by omega)
   have s2:=ap5 (N:=N) (a0:=a0) (a1:=a1) (a2:=a2) (a3:=a3) (a4:=some (.bl true)) (L:=L++[r++[0]]) (r:=r) 1 (by omega) (by rw [List.length_append,List.length_singleton]; omega)
   refine ⟨L++[r++[0]]++[r++[1]],(h.snoc hr (Or.inl rfl)).snoc hr (Or.inr rfl),by simp,by simp,?_⟩
   have it:yS ao aF ⟨ar,[5],0⟩ N (.ite (.var 4) [.mth .append (.var 5) [(.op .add (.var 6) (.lst [(.cI 0)]))]] []) [a0,a1,a2,a3,some (.bl true),some (RT L),some (inT r)] [(5,1)]=.ok (.nx [a0,a1,a2,a3,some (.bl true),some (RT (L++[r++[0]])),some (inT r)] [(5,1)]):=by
     rw [bR,aE (i:=4) rfl,Ou.aa,dE]
     show ySs _ _ _ _ _ _ (dn (gU ar 2 (.var 4)) [(5,1)])=_
     rw [g,aT s1,aD]
   rw [t0,oD,aT it,aT s2,aD]
 | false=>
   have s2:=ap5 (N:=N) (a0:=a0) (a1:=a1) (a2:=a2) (a3:=a3) (a4:=some (.bl false)) (L:=L) (r:=r) 1 (by omega) (by omega)
   refine ⟨L++[r++[1]],h.snoc hr (Or.inr rfl),by simp,by simp,?_⟩
   have it:yS ao aF ⟨ar,[5],0⟩ N (.ite (.var 4) [.mth .append (.var 5) [(.op .add (.var 6) (.lst [(.cI 0)]))]] []) [a0,a1,a2,a3,some (.bl false),some (RT L),some (inT r)] [(5,1)]=.ok (.nx [a0,a1,a2,a3,some (.bl false),some (RT L),some (inT r)] [(5,1)]):=by
     rw [bR,aE (i:=4) rfl,Ou.aa,dS]
     show ySs _ _ _ _ _ _ (dn (gU ar 2 (.var 4)) [(5,1)])=_
     rw [g,aD]
   rw [t0,oD,aT it,aT s2,aD]
theorem Dv {N k:Nat} {a0 a1 a2 a3:Option T} {b:Bool} (hk:k < 7):∀ (S L:List (List Int)) (r6:Option T),(∀ r ∈ S,r.length=k∧∀ x ∈ r,x=0∨x=1)→Rk (k + 1) L→L.length + 2 * S.length < 999→∃ L' s6,Rk (k + 1) L'∧L.length + S.length≤L'.length∧L'.length≤L.length + 2 * S.length ∧
   cT (cn ao aF ⟨ar,[5],0⟩ N (.nm 6) oD) (S.map inT) [a0,a1,a2,a3,some (.bl b),some (RT L),r6] [(5,1)]=.ok (.nx [a0,a1,a2,a3,some (.bl b),some (RT L'),s6] [(5,1)])
 | [],L,r6,_,h,_=>⟨L,r6,h,by simp,by simp,by rw [List.map_nil,cL]⟩
 | r :: S,L,r6,hS,h,hl=>by
   rw [List.length_cons] at hl
   obtain ⟨L1,h1,l1,l2,e⟩:=FZ (N:=N) (a0:=a0) (a1:=a1) (a2:=a2) (a3:=a3) (b:=b) (r6:=r6) hk (by omega) h (hS r (List.mem_cons_self ..))
   obtain ⟨L2,s6,h2,l3,l4,e'⟩:=Dv (N:=N) (a0:=a0) (a1:=a1) (a2:=a2) (a3:=a3) (b:=b) hk S L1 (some (inT r)) (fun q hq=>hS q (List.mem_cons_of_mem _ hq)) h1 (by omega)
   refine ⟨L2,s6,h2,by rw [List.length_cons]; omega,by rw [List.length_cons]; omega,?_⟩
   rw [List.map_cons,bM,e,Ou.aa,cR,e']
end K50
namespace K50
open PySem PySem.Spec L2 Sv
open Ev (D aZ bp ai)
noncomputable def BT (bs:List Bool):T:=.lst (bs.map .bl)
noncomputable def qQ:List S:=[.set (.nm 5) (.lst []),.for (.nm 6) (.seq (.var 3)) oD,.set (.nm 3) (.var 5)]
noncomputable def O5 (o:Own):Prop:=o=[]∨o=[(5,1)]
theorem Hf {N k:Nat} {a0 a1 a2 r4 r5 r6:Option T} {b:Bool} {S:List (List Int)} {o:Own} (ho:O5 o) (hk:k < 7) (hS:Rk k S) (hl:S.length≤64):∃ L s5 s6,Rk (k + 1) L∧S.length≤L.length∧L.length≤2 * S.length ∧
   cn ao aF ⟨ar,[5],0⟩ N (.nm 4) qQ (.bl b) [a0,a1,a2,some (RT S),r4,r5,r6] o=.ok (.nx [a0,a1,a2,some (RT L),some (.bl b),s5,s6] []):=by
 obtain ⟨L,s6,h1,l1,l2,e⟩:=Dv (N:=N) (a0:=a0) (a1:=a1) (a2:=a2) (a3:=some (RT S)) (b:=b) hk S [] r6 hS (fun _ z=>by cases z) (by simp only [List.length_nil]; omega)
 refine ⟨L,some (RT L),s6,h1,by simpa using l1,by simpa using l2,?_⟩
 have t0:cn ao aF ⟨ar,[5],0⟩ N (.nm 4) qQ (.bl b) [a0,a1,a2,some (RT S),r4,r5,r6] o=ySs ao aF ⟨ar,[5],0⟩ N qQ [a0,a1,a2,some (RT S),some (.bl b),r5,r6] o:=by
   rcases ho with rfl | rfl
   · rw [cG]; rfl
   · rw [cG]; rfl
 have s1:yS ao aF ⟨ar,[5],0⟩ N (.set (.nm 5) (.lst [])) [a0,a1,a2,some (RT S),some (.bl b),r5,r6] o=.ok (.nx [a0,a1,a2,some (RT S),some (.bl b),some (RT []),r6] [(5,1)]):=by
   rcases ho with rfl | rfl <;> simp only [dq,af,ba,ip,iN,pC,aA,aq,bf,jB,Ou.aa,aw,cm,frg,fO,gts,bQ,tgN,List.getElem?_cons_zero,List.getElem?_cons_succ,List.set_cons_zero,List.set_cons_succ,List.map_nil,List.contains_cons,List.contains_nil,List.all_nil,Option.isSome_some,Bool.and_true,Bool.and_false,Bool.or_false,Bool.false_eq_true,if_true,if_false,beq_self_eq_true,Nat.min_def,and_true,and_false,reduceCtorEq,Nat.reduceEqDiff,Nat.reduceLeDiff,RT]
 have s2:yS ao aF ⟨ar,[5],0⟩ N (.for (.nm 6) (.seq (.var 3)) oD) [a0,a1,a2,some (RT S),some (.bl b),some (RT []),r6] [(5,1)]=.ok (.nx [a0,a1,a2,some (RT S),some (.bl b),some (RT L),s6] [(5,1)]):=by
   have g:dn (gUI ar 0 (.seq (.var 3))) [(5,1)]=[(5,1)]:=by simp only [aq,bf,nX,gts,dI,Bool.and_true,Bool.and_false,Bool.false_eq_true,if_false,Nat.reduceBEq,Nat.reduceLT,decide_true,and_true,and_false,Nat.reduceEqDiff]
   rw [gW,show yIt ao (.seq (.var 3)) [a0,a1,a2,some (RT S),some (.bl b),some (RT []),r6]=.ok (S.map inT) by rw [cb,ag]; rfl,Ou.aa]
   show Ou.noX (cT _ _ _ (dn (gUI ar 0 (.seq (.var 3))) [(5,1)]))=_
   rw [g,e,Ou.de]
 have s3:yS ao aF ⟨ar,[5],0⟩ N (.set (.nm 3) (.var 5)) [a0,a1,a2,some (RT S),some (.bl b),some (RT L),s6] [(5,1)]=.ok (.nx [a0,a1,a2,some (RT L),some (.bl b),some (RT L),s6] []):=by
   simp only [ag,ba,qe,tH,aA,aq,bf,Ou.aa,ax,aw,cm,fO,gts,List.getElem?_cons_zero,List.getElem?_cons_succ,List.set_cons_zero,List.set_cons_succ,List.contains_cons,List.contains_nil,Option.isSome_some,Bool.and_true,Bool.and_false,Bool.or_false,Bool.false_eq_true,if_true,if_false,beq_self_eq_true,Nat.reduceBEq,Nat.reduceLT,Nat.min_def,decide_true,and_true,and_false,reduceCtorEq,Nat.reduceEqDiff]
 rw [t0,qQ,aT s1,aT s2,aT s3,aD]
theorem Dj {N:Nat} {a0 a1 a2:Option T}:∀ (bs:List Bool) (k:Nat) (S:List (List Int)) (r4 r5 r6:Option T) {o:Own},O5 o→k + bs.length≤7→Rk k S→1≤S.length→S.length * 2 ^ bs.length≤64→∃ L s4 s5 s6 o',O5 o'∧Rk (k + bs.length) L∧1≤L.length∧L.length≤64 ∧
   cT (cn ao aF ⟨ar,[5],0⟩ N (.nm 4) qQ) (bs.map .bl) [a0,a1,a2,some (RT S),r4,r5,r6] o=.ok (.nx [a0,a1,a2,some (RT L),s4,s5,s6] o')
 | [],k,S,r4,r5,r6,o,ho,_,hS,h1,hl=>⟨S,r4,r5,r6,o,ho,hS,h1,by simpa using hl,by rw [List.map_nil,cL]⟩
 | b :: bs,k,S,r4,r5,r6,o,ho,hk,hS,h1,hl=>by
   rw [List.length_cons] at hk hl
   have p1:1≤2 ^ bs.length:=Nat.one_le_two_pow
   have hl2:(2 * S.length) * 2 ^ bs.length≤64:=by
     rw [Nat.pow_succ] at hl
     rw [Nat.mul_comm 2,Nat.mul_assoc,Nat.mul_comm 2]
     exact hl
   have hl3:S.length≤64:=Nat.le_trans (Nat.le_mul_of_pos_right _ (Nat.pos_of_ne_zero (by omega))) (Nat.le_trans (Nat.mul_le_mul_right _ (show S.length≤2 * S.length by omega)) hl2)
   obtain ⟨L,s5,s6,h2,l1,l2,e⟩:=Hf (N:=N) (a0:=a0) (a1:=a1) (a2:=a2) (r4:=r4) (r5:=r5) (r6:=r6) (b:=b) ho (by omega) hS hl3
   obtain ⟨L',t4,t5,t6,o',ho',h3,l3,l4,e'⟩:=Dj (N:=N) (a0:=a0) (a1:=a1) (a2:=a2) bs (k + 1) L (some (.bl b)) s5 s6 (Or.inl rfl) (by omega) h2 (by omega) (Nat.le_trans (Nat.mul_le_mul_right _ l2) hl2)
   refine ⟨L',t4,t5,t6,o',ho',by rw [show k + (b :: bs).length=k + 1 + bs.length by rw [List.length_cons]; omega]; exact h3,l3,l4,?_⟩
   rw [List.map_cons,bM,e,Ou.aa,cR,e']
noncomputable def eZ:E:=.lst [(.op .add (.comp [none] (.nm 0) (.rng (.var 2)) [] (.cI 0)) (.lst [(.cI 1)]))]
noncomputable def sY:List S:=[.set (.nm 3) eZ,.for (.nm 4) (.seq (.sl (.var 0) (.op .add (.var 2) (.cI 1)) .cN)) qQ,.set (.nm 1) (.op .add (.var 1) (.var 3))]
theorem Lc {f:Nat} {a0 a1 r3 r4 r5 r6:Option T} (hf:f < 7):yE ao eZ [a0,a1,some (.int (f:Nat)),r3,r4,r5,r6]=.ok (RT [List.replicate f 0++[1]]):=by
 have cp:yE ao (.comp [none] (.nm 0) (.rng (.var 2)) [] (.cI 0)) [a0,a1,some (.int (f:Nat)),r3,r4,r5,r6]=.ok (inT (List.replicate f 0)):=by
   have e:inT (List.replicate f 0)=.lst ((List.range f).map fun _=>.int 0):=by
     rw [inT,List.map_replicate,List.map_const',List.length_range]
   rw [e]
   refine bz (fH (n:=f) (aE rfl) (by omega)) (by rw [List.length_map,List.length_range]; exact bJ (by omega)) (bC _ fun k _=>?_)
   simp only [aM,bo,Ou.aa,aw,dB,aj,List.set_cons_zero,List.map_cons,List.map_nil,List.nil_append,List.cons_append,Option.bind_none,if_true,aj]
 have c:=Dq (f:=List.replicate f 0) (by rw [List.length_replicate]; omega) 1
 have l1:yE ao (.lst [(.cI 1)]) [a0,a1,some (.int (f:Nat)),r3,r4,r5,r6]=.ok (.lst [.int 1]):=by
   rw [dq,ae,aM,Ou.aa,af,Ou.aa,Ou.aa,jP]
 rw [eZ,dq,ae,cJ,cp,Ou.aa,l1,Ou.aa,c,Ou.aa,af,Ou.aa,Ou.aa,jP]
 rfl
theorem Et {bs:List Bool} {k:Nat} (h:k≤bs.length):pd (bs.map .bl) (some (k:Nat)) none=(bs.drop k).map .bl:=by
 unfold pd
 rw [HT.zv,HT.wC,List.length_map,Nat.min_eq_left h,List.map_drop,List.take_of_length_le (by rw [List.length_drop,List.length_map]; omega)]
theorem J5 {a:Nat} (h:a≤6):2 ^ a≤64:=Nat.le_trans (Nat.pow_le_pow_right (by decide) h) (by decide)
theorem GC {N f:Nat} {bs:List Bool} {R:List (List Int)} {r2 r3 r4 r5 r6:Option T} {o:Own} (ho:O5 o) (hb:bs.length≤7) (hf:f < bs.length) (hR:Rk bs.length R) (hl:R.length≤600):∃ R' s3 s4 s5 s6 o',O5 o'∧Rk bs.length R'∧R.length≤R'.length∧R'.length≤R.length + 64 ∧
   cn ao aF ⟨ar,[5],0⟩ N (.nm 2) sY (.int (f:Nat)) [some (BT bs),some (RT R),r2,r3,r4,r5,r6] o=.ok (.nx [some (BT bs),some (RT R'),some (.int (f:Nat)),s3,s4,s5,s6] o'):=by
 have hd:(bs.drop (f + 1)).length=bs.length - (f + 1):=List.length_drop ..
 have r0:Rk (f + 1) [List.replicate f 0++[1]]:=fun q hq=>by
   obtain rfl:=List.mem_singleton.mp hq
   refine ⟨by rw [List.length_append,List.length_replicate]; rfl,fun x hx=>?_⟩
   rcases List.mem_append.mp hx with hx | hx
   · exact Or.inl (List.eq_of_mem_replicate hx)
   · exact Or.inr (List.mem_singleton.mp hx)
 obtain ⟨L,s4,s5,s6,o',ho',h1,l1,l2,e⟩:=Dj (N:=N) (a0:=some (BT bs)) (a1:=some (RT R)) (a2:=some (.int (f:Nat))) (bs.drop (f + 1)) (f + 1) [List.replicate f 0++[1]] r4 r5 r6 ho (by rw [hd]; omega) r0 (by simp) (by rw [List.length_singleton,Nat.one_mul,hd]; exact J5 (by omega))
 rw [show f + 1 + (bs.drop (f + 1)).length=bs.length by rw [hd]; omega] at h1
 have t0:cn ao aF ⟨ar,[5],0⟩ N (.nm 2) sY (.int (f:Nat)) [some (BT bs),some (RT R),r2,r3,r4,r5,r6] o=ySs ao aF ⟨ar,[5],0⟩ N sY [some (BT bs),some (RT R),some (.int (f:Nat)),r3,r4,r5,r6] o:=by
   rcases ho with rfl | rfl
   · rw [cG]; rfl
   · rw [cG]; rfl
 have z:=Lc (a0:=some (BT bs)) (a1:=some (RT R)) (r3:=r3) (r4:=r4) (r5:=r5) (r6:=r6) (show f < 7 by omega)
 have s1:yS ao aF ⟨ar,[5],0⟩ N (.set (.nm 3) eZ) [some (BT bs),some (RT R),some (.int (f:Nat)),r3,r4,r5,r6] o=.ok (.nx [some (BT bs),some (RT R),some (.int (f:Nat)),some (RT [List.replicate f 0++[1]]),r4,r5,r6] o):=by
   rw [ba _ _ _ _ _ _ _ _ (by simp only [ip,eZ]),z,Ou.aa]
   rcases ho with rfl | rfl
   · simp only [iN,aA,aq,aw,cm,List.getElem?_cons_zero,List.getElem?_cons_succ,List.set_cons_zero,List.set_cons_succ,List.contains_cons,List.contains_nil,Option.isSome_some,Bool.and_true,Bool.or_false,Bool.false_eq_true,if_false,Nat.reduceBEq,Nat.min_def,and_true,eZ]
   · simp only [iN,aA,aq,bf,aw,cm,fO,gts,bQ,dI,List.getElem?_cons_zero,List.getElem?_cons_succ,List.set_cons_zero,List.set_cons_succ,List.contains_cons,List.contains_nil,Option.isSome_some,Bool.false_and,Bool.and_true,Bool.and_false,Bool.or_false,Bool.false_eq_true,if_false,Nat.reduceBEq,Nat.reduceLT,Nat.min_def,decide_false,and_true,and_false,false_and,Nat.reduceEqDiff,eZ]
     rfl
 have hi:yIt ao (.seq (.sl (.var 0) (.op .add (.var 2) (.cI 1)) .cN)) [some (BT bs),some (RT R),some (.int (f:Nat)),some (RT [List.replicate f 0++[1]]),r4,r5,r6]=.ok ((bs.drop (f + 1)).map .bl):=by
   have ad:yE ao (.op .add (.var 2) (.cI 1)) [some (BT bs),some (RT R),some (.int (f:Nat)),some (RT [List.replicate f 0++[1]]),r4,r5,r6]=.ok (.int ((f + 1:Nat):Int)):=by
     rw [cJ,aE (i:=2) rfl,Ou.aa,aM,Ou.aa,ji,Int.natCast_add]
     rfl
   rw [cb,pW,aE (i:=0) rfl,Ou.aa,ad,Ou.aa,show kv (.op .add (.var 2) (.cI 1)) (.int ((f + 1:Nat):Int))=some (some ((f + 1:Nat):Int)) from rfl,aH,oM,Ou.aa,show kv .cN .non=some none from rfl,aH,BT,zSl,Et (by omega),Ou.aa,kb]
 have s2:yS ao aF ⟨ar,[5],0⟩ N (.for (.nm 4) (.seq (.sl (.var 0) (.op .add (.var 2) (.cI 1)) .cN)) qQ) [some (BT bs),some (RT R),some (.int (f:Nat)),some (RT [List.replicate f 0++[1]]),r4,r5,r6] o=.ok (.nx [some (BT bs),some (RT R),some (.int (f:Nat)),some (RT L),s4,s5,s6] o'):=by
   have g:dn (gUI ar 0 (.seq (.sl (.var 0) (.op .add (.var 2) (.cI 1)) .cN))) o=o:=by
     rcases ho with rfl | rfl <;> simp only [aq,bf,nX,gts,dI,Bool.and_true,Bool.and_false,Bool.or_false,Bool.false_eq_true,if_false,Nat.reduceBEq,Nat.lt_irrefl,decide_false,and_true,and_false,Nat.reduceEqDiff]
   rw [gW,hi,Ou.aa]
   show Ou.noX (cT _ _ _ (dn (gUI ar 0 (.seq (.sl (.var 0) (.op .add (.var 2) (.cI 1)) .cN))) o))=_
   rw [g,e,Ou.de]
 have ct:z2 .add (RT R) (RT L)=.ok (RT (R++L)):=by
   rw [RT,RT,qL (by rw [List.length_map,List.length_map]; exact Nat.lt_of_le_of_lt (Nat.add_le_add hl l2) (by decide)),RT,List.map_append]
 have s3:yS ao aF ⟨ar,[5],0⟩ N (.set (.nm 1) (.op .add (.var 1) (.var 3))) [some (BT bs),some (RT R),some (.int (f:Nat)),some (RT L),s4,s5,s6] o'=.ok (.nx [some (BT bs),some (RT (R++L)),some (.int (f:Nat)),some (RT L),s4,s5,s6] o'):=by
   rcases ho' with rfl | rfl <;> simp only [ag,cJ,ba,gq,EU,aA,aq,bf,Ou.aa,ax,aw,cm,frg,fO,gts,tgN,List.getElem?_cons_zero,List.getElem?_cons_succ,List.set_cons_zero,List.set_cons_succ,List.contains_cons,List.contains_nil,Option.isSome_some,Bool.and_true,Bool.and_false,Bool.or_false,Bool.false_eq_true,if_false,Nat.reduceBEq,Nat.min_def,Nat.lt_irrefl,decide_false,and_true,and_false,Nat.reduceEqDiff,ct]
 refine ⟨R++L,some (RT L),s4,s5,s6,o',ho',fun q hq=>?_,by simp,by simp; omega,?_⟩
 · rcases List.mem_append.mp hq with hq | hq
   · exact hR q hq
   · exact h1 q hq
 · rw [t0,sY,aT s1,aT s2,aT s3,aD]
theorem CO {N:Nat} {bs:List Bool} (hb:bs.length≤7):∀ (fs:List Nat) (R:List (List Int)) (r2 r3 r4 r5 r6:Option T) {o:Own},O5 o→(∀ f ∈ fs,f < bs.length)→Rk bs.length R→R.length + 64 * fs.length≤600→∃ R' s2 s3 s4 s5 s6 o',Rk bs.length R'∧R.length≤R'.length∧R'.length≤600 ∧
   cT (cn ao aF ⟨ar,[5],0⟩ N (.nm 2) sY) (fs.map fun k=>.int (k:Nat)) [some (BT bs),some (RT R),r2,r3,r4,r5,r6] o=.ok (.nx [some (BT bs),some (RT R'),s2,s3,s4,s5,s6] o')
 | [],R,r2,r3,r4,r5,r6,o,_,_,hR,hl=>⟨R,r2,r3,r4,r5,r6,o,hR,Nat.le_refl _,by simpa using hl,by rw [List.map_nil,cL]⟩
 | f :: fs,R,r2,r3,r4,r5,r6,o,ho,hf,hR,hl=>by
   rw [List.length_cons] at hl
   obtain ⟨R1,s3,s4,s5,s6,o1,ho1,h1,l1,l2,e⟩:=GC (N:=N) (r2:=r2) (r3:=r3) (r4:=r4) (r5:=r5) (r6:=r6) ho hb (hf f (List.mem_cons_self ..)) hR (by omega)
   obtain ⟨R2,t2,t3,t4,t5,t6,o2,h2,l3,l4,e'⟩:=CO (N:=N) hb fs R1 (some (.int (f:Nat))) s3 s4 s5 s6 ho1 (fun k hk=>hf k (List.mem_cons_of_mem _ hk)) h1 (by omega)
   refine ⟨R2,t2,t3,t4,t5,t6,o2,h2,by omega,l4,?_⟩
   rw [List.map_cons,bM,e,Ou.aa,cR,e']
theorem xA (bs:List Bool) (hb:bs.length≤7):∃ R,Rk bs.length R∧1≤R.length∧R.length≤600∧iM [BT bs]=.ok (RT R):=by
 have r0:Rk bs.length [List.replicate bs.length 0]:=fun q hq=>by
   obtain rfl:=List.mem_singleton.mp hq
   exact ⟨List.length_replicate,fun x hx=>Or.inl (List.eq_of_mem_replicate hx)⟩
 obtain ⟨R,s2,s3,s4,s5,s6,o',h1,l1,l2,e⟩:=CO (N:=aI [BT bs]) hb (List.range bs.length) [List.replicate bs.length 0] none none none none none (Or.inl rfl) (fun k hk=>List.mem_range.mp hk) r0 (by rw [List.length_singleton,List.length_range]; omega)
 refine ⟨R,h1,by simpa using l1,l2,?_⟩
 have cp:yE ao (.lst [(.comp [none] (.nm 0) (.seq (.var 0)) [] (.cI 0))]) [some (BT bs),none,none,none,none,none,none]=.ok (RT [List.replicate bs.length 0]):=by
   have c:yE ao (.comp [none] (.nm 0) (.seq (.var 0)) [] (.cI 0)) [some (BT bs),none,none,none,none,none,none]=.ok (inT (List.replicate bs.length 0)):=by
     have e:inT (List.replicate bs.length 0)=.lst (bs.map fun _=>.int 0):=by
       rw [inT,List.map_replicate,List.map_const']
     rw [e]
     refine bz (xs:=bs.map .bl) (by rw [cb,ag]; rfl) (by rw [List.length_map]; exact bJ hb) (bC _ fun k _=>?_)
     simp only [aM,bo,Ou.aa,aw,dB,aj,List.set_cons_zero,List.map_cons,List.map_nil,List.nil_append,List.cons_append,Option.bind_none,if_true,aj]
   rw [dq,ae,c,Ou.aa,af,Ou.aa,Ou.aa,jP]
   rfl
 have hn:yE ao (.bi .len [(.var 0)]) [some (BT bs),some (RT [List.replicate bs.length 0]),none,none,none,none,none]=.ok (.int (bs.length:Nat)):=by
   unfold BT
   simp only [ag,bA,af,ae,Ou.aa,ax,dz,List.getElem?_cons_zero,List.length_map]
 rw [rh,show eJ=[.set (.nm 1) (.lst [(.comp [none] (.nm 0) (.seq (.var 0)) [] (.cI 0))]),.for (.nm 2) (.rng (.bi .len [(.var 0)])) sY,.ret (.var 1)] from rfl]
 have s1:yS ao aF ⟨ar,[5],0⟩ (aI [BT bs]) (.set (.nm 1) (.lst [(.comp [none] (.nm 0) (.seq (.var 0)) [] (.cI 0))])) [some (BT bs),none,none,none,none,none,none] []=.ok (.nx [some (BT bs),some (RT [List.replicate bs.length 0]),none,none,none,none,none] []):=by
   rw [ba _ _ _ _ _ _ _ _ (by simp only [ip]),cp,Ou.aa]
   simp only [iN,aA,aq,aw,cm,List.getElem?_cons_zero,List.getElem?_cons_succ,List.set_cons_zero,List.set_cons_succ,List.contains_cons,List.contains_nil,Option.isSome_some,Bool.and_true,Bool.or_false,Bool.false_eq_true,if_false,Nat.reduceBEq,Nat.min_def,and_true]
 rw [aT s1,ah,gW,fH hn (by omega),Ou.aa,aq,e,Ou.de,Ou.aa,aV,ah,aJ,aE (i:=1) rfl,Ou.aa,aO,Ou.aa,aB,fG]
end K50
namespace K50
open PySem PySem.Spec L2 Sv
open Ev (D aZ bp ai)
theorem uw {Ψ:FnT} {i:Nat} (e:Ψ i=oT):xt Ψ i:=fun c bs hb hl=>by rw [e]; exact xV _ _ _ c bs hb hl
theorem pN (ns:List Int) (k:Nat):∃ c:Int,ql [inT ns,.int (k:Nat)]=.ok (.int c):=EA _ _ _ _ ns k
theorem Ez (c:Int):∃ m w:Nat,(1≤m∧m≤7)∧(1≤w∧w≤7)∧qv [.int c]=.ok (.tup [.int (m:Nat),.int (w:Nat)]):=EZ (nb:=0) rfl (uw rfl) c
noncomputable def qD:List S:=[.set (.nm 6) (.call 2 [(.var 4)]),.set (.nm 7) (.ix (.var 6) (.op .mod (.var 5) (.bi .len [(.var 6)]))),.mth .append (.var 3) [(.var 7)],.set (.nm 4) (.comp [none,none] (.tp [0,1]) (.zip (.var 4) (.var 7)) [] (.and (.var 0) (.cmp .eq (.var 1) (.cI 0))))]
theorem CN:∀ (bs:List Bool) (r:List Int),km (bs.map .bl) (r.map .int)=(bs.zip r).map fun p=>.tup [.bl p.1,.int p.2]
 | [],_=>by simp [km]
 | _ :: _,[]=>by simp [km]
 | b :: bs,x :: r=>by rw [List.map_cons,List.map_cons,km,CN bs r]; rfl
theorem B9 {bs:List Bool} {r:List Int} {a0 a1 a2 a3 a5 a6:Option T} (hb:bs.length≤7) (hr:r.length=bs.length):∃ bs',bs'.length=bs.length∧yE bq (.comp [none,none] (.tp [0,1]) (.zip (.var 4) (.var 7)) [] (.and (.var 0) (.cmp .eq (.var 1) (.cI 0)))) [a0,a1,a2,a3,some (BT bs),a5,a6,some (inT r)]=.ok (BT bs'):=by
 refine ⟨(bs.zip r).map fun p=>p.1 && decide (p.2=0),by rw [List.length_map,List.length_zip,hr,Nat.min_self],?_⟩
 rw [show BT ((bs.zip r).map fun p=>p.1 && decide (p.2=0))=.lst ((bs.zip r).map fun p=>.bl (p.1 && decide (p.2=0))) by rw [BT,List.map_map]; rfl]
 refine bz (xs:=(bs.zip r).map fun p=>.tup [.bl p.1,.int p.2]) ?_ (by rw [List.length_map,List.length_zip,hr,Nat.min_self]; exact bJ hb) (bC _ fun p _=>?_)
 · rw [Fm,aE (i:=4) rfl,Ou.aa,aE (i:=7) rfl,Ou.aa,inT,BT,K3,CN]
 · obtain ⟨b,x⟩:=p
   cases b <;> simp only [ag,aM,bt,ee,bo,jm,iC,az,Ou.aa,ax,aw,mr,dB,bP,aj,List.getElem?_cons_zero,List.getElem?_cons_succ,List.set_cons_zero,List.set_cons_succ,List.map_cons,List.map_nil,List.nil_append,List.cons_append,Option.bind_none,Bool.true_and,Bool.false_and,if_true,true_and,false_and,aj,Function.comp]
theorem Jq {N w:Nat} {bs:List Bool} {L:List (List Int)} {q:Int} {a0 a1 a2 r5 r6 r7:Option T} (hb:bs.length=w) (hw:w≤7) (hL:Rk w L) (hl:L.length < 100) (hq:0≤q):∃ r bs' s6,bs'.length=w∧Rk w (L++[r])∧cn bq cA ⟨bF,[3],0⟩ N (.nm 5) qD (.int q) [a0,a1,a2,some (RT L),some (BT bs),r5,r6,r7] [(3,1)]=.ok (.nx [a0,a1,a2,some (RT (L++[r])),some (BT bs'),some (.int q),s6,some (inT r)] [(3,1)]):=by
 obtain ⟨R,hR,r1,r2,eo⟩:=xA bs (by omega)
 have md:z2 .mod (.int q) (.int (R.length:Nat))=.ok (.int (q % (R.length:Nat))):=gR (by omega)
 have g1:=Int.emod_nonneg q (show ((R.length:Nat):Int) ≠ 0 by omega)
 have g2:=Int.emod_lt_of_pos q (show (0:Int) < ((R.length:Nat):Int) by omega)
 obtain ⟨k,hk⟩:∃ k:Nat,q % ((R.length:Nat):Int)=(k:Nat):=⟨(q % ((R.length:Nat):Int)).toNat,by omega⟩
 have hkl:k < R.length:=by omega
 have at':zI (RT R) (.int (k:Nat))=.ok (inT R[k]):=dF (by rw [List.getElem?_map,List.getElem?_eq_getElem hkl]; rfl)
 have hr:=hR R[k] (List.getElem_mem _)
 obtain ⟨bs',hb',ec⟩:=B9 (bs:=bs) (r:=R[k]) (a0:=a0) (a1:=a1) (a2:=a2) (a3:=some (RT (L++[R[k]]))) (a5:=some (.int q)) (a6:=some (RT R)) (by omega) hr.1
 refine ⟨R[k],bs',some (RT R),by omega,fun x hx=>?_,?_⟩
 · rcases List.mem_append.mp hx with hx | hx
   · exact hL x hx
   · obtain rfl:=List.mem_singleton.mp hx
     rw [← hb]
     exact hr
 · have t0:cn bq cA ⟨bF,[3],0⟩ N (.nm 5) qD (.int q) [a0,a1,a2,some (RT L),some (BT bs),r5,r6,r7] [(3,1)]=ySs bq cA ⟨bF,[3],0⟩ N qD [a0,a1,a2,some (RT L),some (BT bs),some (.int q),r6,r7] [(3,1)]:=by
     rw [cG]; rfl
   rw [← kU] at eo
   have s1:yS bq cA ⟨bF,[3],0⟩ N (.set (.nm 6) (.call 2 [(.var 4)])) [a0,a1,a2,some (RT L),some (BT bs),some (.int q),r6,r7] [(3,1)]=.ok (.nx [a0,a1,a2,some (RT L),some (BT bs),some (.int q),some (RT R),r7] [(3,1)]):=by
     rw [ba _ _ _ _ _ _ _ _ (by simp only [cy,cO,gK,Bool.and_false,Nat.lt_irrefl,decide_false,and_false,g9]),jZ eo (aE rfl),Ou.aa]
     simp only [e8,aA,aq,bf,aw,cm,frg,fO,gts,bQ,tgN,List.getElem?_cons_zero,List.getElem?_cons_succ,List.set_cons_zero,List.set_cons_succ,List.contains_cons,List.contains_nil,Option.isSome_some,Bool.and_true,Bool.and_false,Bool.or_false,Bool.false_eq_true,if_false,Nat.reduceBEq,Nat.reduceLT,Nat.min_def,decide_true,and_true,and_false,Nat.reduceEqDiff,g9]
   have ix:yE bq (.ix (.var 6) (.op .mod (.var 5) (.bi .len [(.var 6)]))) [a0,a1,a2,some (RT L),some (BT bs),some (.int q),some (RT R),r7]=.ok (inT R[k]):=by
     rw [bX,aE (i:=6) rfl,Ou.aa,cJ,aE (i:=5) rfl,Ou.aa,bA,ae,aE (i:=6) rfl,Ou.aa,af,Ou.aa,Ou.aa,RT,dz,List.length_map,Ou.aa,md,Ou.aa,hk]
     exact at'
   have s2:yS bq cA ⟨bF,[3],0⟩ N (.set (.nm 7) (.ix (.var 6) (.op .mod (.var 5) (.bi .len [(.var 6)])))) [a0,a1,a2,some (RT L),some (BT bs),some (.int q),some (RT R),r7] [(3,1)]=.ok (.nx [a0,a1,a2,some (RT L),some (BT bs),some (.int q),some (RT R),some (inT R[k])] [(3,1)]):=by
     rw [ba _ _ _ _ _ _ _ _ (by simp only [tR]),ix,Ou.aa]
     simp only [Gw,aA,aq,bf,aw,cm,frg,fO,gts,bQ,tgN,List.getElem?_cons_zero,List.getElem?_cons_succ,List.set_cons_zero,List.set_cons_succ,List.contains_cons,List.contains_nil,Option.isSome_some,Bool.and_true,Bool.and_false,Bool.or_false,Bool.false_eq_true,if_false,Nat.reduceBEq,Nat.reduceLT,Nat.min_def,Nat.lt_irrefl,decide_false,and_true,and_false,Nat.reduceEqDiff]
   have ap:=CM (L:=L) (by omega) R[k]
   have s3:yS bq cA ⟨bF,[3],0⟩ N (.mth .append (.var 3) [(.var 7)]) [a0,a1,a2,some (RT L),some (BT bs),some (.int q),some (RT R),some (inT R[k])] [(3,1)]=.ok (.nx [a0,a1,a2,some (RT (L++[R[k]])),some (BT bs),some (.int q),some (RT R),some (inT R[k])] [(3,1)]):=by
     unfold RT at *
     simp only [ag,af,ae,nO,aH,i9,aq,bf,Ou.aa,ax,cg,nZ,gts,bQ,qO,List.getElem?_cons_zero,List.getElem?_cons_succ,List.set_cons_zero,List.set_cons_succ,List.lookup_cons,Option.getD_some,Bool.and_true,Bool.and_false,Bool.or_false,Bool.false_eq_true,if_true,if_false,beq_self_eq_true,Nat.reduceBEq,Nat.reduceLT,decide_true,and_true,and_false,Nat.reduceEqDiff,ap]
   have s4:yS bq cA ⟨bF,[3],0⟩ N (.set (.nm 4) (.comp [none,none] (.tp [0,1]) (.zip (.var 4) (.var 7)) [] (.and (.var 0) (.cmp .eq (.var 1) (.cI 0))))) [a0,a1,a2,some (RT (L++[R[k]])),some (BT bs),some (.int q),some (RT R),some (inT R[k])] [(3,1)]=.ok (.nx [a0,a1,a2,some (RT (L++[R[k]])),some (BT bs'),some (.int q),some (RT R),some (inT R[k])] [(3,1)]):=by
     rw [ba _ _ _ _ _ _ _ _ (by simp only [kM]),ec,Ou.aa]
     simp only [EM,mU,aA,aq,bf,aw,cm,fO,gts,spc,dI,List.getElem?_cons_zero,List.getElem?_cons_succ,List.set_cons_zero,List.set_cons_succ,List.contains_cons,List.contains_nil,Option.isSome_some,Bool.false_and,Bool.and_true,Bool.and_false,Bool.or_false,Bool.false_eq_true,if_true,if_false,Nat.reduceBEq,Nat.min_def,Nat.lt_irrefl,decide_false,and_true,and_false,false_and,Nat.reduceEqDiff]
     rfl
   rw [t0,qD,aT s1,aT s2,aT s3,aT s4,aD]
theorem Bo {N w:Nat} {a0 a1 a2:Option T} (hw:w≤7):∀ (qs:List Int) (bs:List Bool) (L:List (List Int)) (r5 r6 r7:Option T),(∀ q ∈ qs,0≤q)→bs.length=w→Rk w L→L.length + qs.length < 100→∃ L' s4 s5 s6 s7,Rk w L'∧L'.length=L.length + qs.length∧cT (cn bq cA ⟨bF,[3],0⟩ N (.nm 5) qD) (qs.map .int) [a0,a1,a2,some (RT L),some (BT bs),r5,r6,r7] [(3,1)]=.ok (.nx [a0,a1,a2,some (RT L'),s4,s5,s6,s7] [(3,1)])
 | [],bs,L,r5,r6,r7,_,_,hL,_=>⟨L,some (BT bs),r5,r6,r7,hL,by simp,by rw [List.map_nil,cL]⟩
 | q :: qs,bs,L,r5,r6,r7,hq,hb,hL,hl=>by
   rw [List.length_cons] at hl
   obtain ⟨r,bs',s6,h1,h2,e⟩:=Jq (N:=N) (a0:=a0) (a1:=a1) (a2:=a2) (r5:=r5) (r6:=r6) (r7:=r7) hb hw hL (by omega) (hq q (List.mem_cons_self ..))
   obtain ⟨L',t4,t5,t6,t7,h3,l3,e'⟩:=Bo (N:=N) (a0:=a0) (a1:=a1) (a2:=a2) hw qs bs' (L++[r]) (some (.int q)) s6 (some (inT r)) (fun x hx=>hq x (List.mem_cons_of_mem _ hx)) h1 h2 (by rw [List.length_append,List.length_singleton]; omega)
   refine ⟨L',t4,t5,t6,t7,h3,by rw [l3,List.length_append,List.length_singleton,List.length_cons]; omega,?_⟩
   rw [List.map_cons,bM,e,Ou.aa,cR,e']
theorem A9 (c:Int) {m w:Nat} (hm:m≤7) (hw:w≤7):∃ L,Rk w L∧L.length=m∧kK [.int c,.int (m:Nat),.int (w:Nat)]=.ok (RT L):=by
 obtain ⟨rs,dg,en⟩:=uw (Ψ:=bq) (i:=0) rfl c (List.replicate m 5040) (fun b hb=>by rw [List.eq_of_mem_replicate hb]; decide) (by rw [List.length_replicate]; exact bJ hm)
 have hl:rs.length=m:=by rw [dg.length,List.length_replicate]
 have pos:∀ q ∈ rs,0≤q:=fun q hq=>by
   obtain ⟨i,hi⟩:=List.getElem?_of_mem hq
   obtain ⟨b,_,h,_⟩:=dg.at i q hi
   exact h
 obtain ⟨L,s4,s5,s6,s7,h1,l1,e⟩:=Bo (N:=aI [.int c,.int (m:Nat),.int (w:Nat)]) (a0:=some (.int c)) (a1:=some (.int (m:Nat))) (a2:=some (.int (w:Nat))) hw rs (List.replicate w true) [] none none none pos List.length_replicate (fun _ z=>by cases z) (by rw [hl]; simp; omega)
 refine ⟨L,h1,by rw [l1,hl]; simp,?_⟩
 rw [tT,show gb=[.set (.nm 3) (.lst []),.set (.nm 4) (.comp [none] (.nm 0) (.rng (.var 2)) [] (.cB true)),.for (.nm 5) (.seq (.call 0 [(.var 0),(.comp [none] (.nm 0) (.rng (.var 1)) [] (.cI 5040))])) qD,.ret (.var 3)] from rfl]
 have s1:yS bq cA ⟨bF,[3],0⟩ (aI [.int c,.int (m:Nat),.int (w:Nat)]) (.set (.nm 3) (.lst [])) [some (.int c),some (.int (m:Nat)),some (.int (w:Nat)),none,none,none,none,none] []=.ok (.nx [some (.int c),some (.int (m:Nat)),some (.int (w:Nat)),some (RT []),none,none,none,none] [(3,1)]):=by
   simp only [dq,af,ba,ip,iN,pC,aA,aq,jB,Ou.aa,aw,cm,List.getElem?_cons_zero,List.getElem?_cons_succ,List.set_cons_zero,List.set_cons_succ,List.map_nil,List.contains_cons,List.contains_nil,List.all_nil,Option.isSome_some,Bool.and_true,Bool.or_false,if_true,if_false,beq_self_eq_true,Nat.min_def,and_true,reduceCtorEq,Nat.reduceLeDiff,RT]
 have cp:yE bq (.comp [none] (.nm 0) (.rng (.var 2)) [] (.cB true)) [some (.int c),some (.int (m:Nat)),some (.int (w:Nat)),some (RT []),none,none,none,none]=.ok (BT (List.replicate w true)):=by
   have e:BT (List.replicate w true)=.lst ((List.range w).map fun _=>.bl true):=by
     rw [BT,List.map_replicate,List.map_const',List.length_range]
   rw [e]
   refine bz (fH (n:=w) (aE rfl) (by omega)) (by rw [List.length_map,List.length_range]; exact bJ hw) (bC _ fun k _=>?_)
   simp only [g8,bo,Ou.aa,aw,dB,aj,List.set_cons_zero,List.map_cons,List.map_nil,List.nil_append,List.cons_append,Option.bind_none,if_true,aj]
 have s2:yS bq cA ⟨bF,[3],0⟩ (aI [.int c,.int (m:Nat),.int (w:Nat)]) (.set (.nm 4) (.comp [none] (.nm 0) (.rng (.var 2)) [] (.cB true))) [some (.int c),some (.int (m:Nat)),some (.int (w:Nat)),some (RT []),none,none,none,none] [(3,1)]=.ok (.nx [some (.int c),some (.int (m:Nat)),some (.int (w:Nat)),some (RT []),some (BT (List.replicate w true)),none,none,none] [(3,1)]):=by
   rw [ba _ _ _ _ _ _ _ _ (by simp only [kM]),cp,Ou.aa]
   simp only [GL,mU,aA,aq,bf,aw,cm,fO,gts,dI,List.getElem?_cons_zero,List.getElem?_cons_succ,List.set_cons_zero,List.set_cons_succ,List.contains_cons,List.contains_nil,Option.isSome_some,Bool.false_and,Bool.and_true,Bool.and_false,Bool.or_false,Bool.false_eq_true,if_true,if_false,Nat.reduceBEq,Nat.reduceLT,Nat.min_def,decide_false,and_true,and_false,false_and,Nat.reduceEqDiff]
   rfl
 have cq:yE bq (.comp [none] (.nm 0) (.rng (.var 1)) [] (.cI 5040)) [some (.int c),some (.int (m:Nat)),some (.int (w:Nat)),some (RT []),some (BT (List.replicate w true)),none,none,none]=.ok (inT (List.replicate m 5040)):=by
   have e:inT (List.replicate m 5040)=.lst ((List.range m).map fun _=>.int 5040):=by
     rw [inT,List.map_replicate,List.map_const',List.length_range]
   rw [e]
   refine bz (fH (n:=m) (aE rfl) (by omega)) (by rw [List.length_map,List.length_range]; exact bJ hm) (bC _ fun k _=>?_)
   simp only [aM,bo,Ou.aa,aw,dB,aj,List.set_cons_zero,List.map_cons,List.map_nil,List.nil_append,List.cons_append,Option.bind_none,if_true,aj]
 have hi:yIt bq (.seq (.call 0 [(.var 0),(.comp [none] (.nm 0) (.rng (.var 1)) [] (.cI 5040))])) [some (.int c),some (.int (m:Nat)),some (.int (w:Nat)),some (RT []),some (BT (List.replicate w true)),none,none,none]=.ok (rs.map .int):=by
   rw [cb,call2 en (aE rfl) cq,Ou.aa,inT,kb]
 have s3:yS bq cA ⟨bF,[3],0⟩ (aI [.int c,.int (m:Nat),.int (w:Nat)]) (.for (.nm 5) (.seq (.call 0 [(.var 0),(.comp [none] (.nm 0) (.rng (.var 1)) [] (.cI 5040))])) qD) [some (.int c),some (.int (m:Nat)),some (.int (w:Nat)),some (RT []),some (BT (List.replicate w true)),none,none,none] [(3,1)]=.ok (.nx [some (.int c),some (.int (m:Nat)),some (.int (w:Nat)),some (RT L),s4,s5,s6,s7] [(3,1)]):=by
   have g:dn (gUI bF 0 (.seq (.call 0 [(.var 0),(.comp [none] (.nm 0) (.rng (.var 1)) [] (.cI 5040))]))) [(3,1)]=[(3,1)]:=by
     simp only [aq,bf,nX,gts,bQ,dI,List.contains_cons,List.contains_nil,Bool.false_and,Bool.and_false,Bool.or_false,Bool.false_or,Bool.false_eq_true,if_false,Nat.reduceBEq,Nat.reduceLT,decide_true,decide_false,and_false,false_and,Nat.reduceEqDiff,la]
     rfl
   rw [gW,hi,Ou.aa]
   show Ou.noX (cT _ _ _ (dn (gUI bF 0 (.seq (.call 0 [(.var 0),(.comp [none] (.nm 0) (.rng (.var 1)) [] (.cI 5040))]))) [(3,1)]))=_
   rw [g,e,Ou.de]
 rw [aT s1,aT s2,aT s3,ah,aJ,aE (i:=3) rfl,Ou.aa,aO,Ou.aa,aB,fG]
end K50
namespace K50
open PySem PySem.Spec L2 Sv
open Ev (D aZ bp ai)
structure Tk (k:Nat) (d:T):Prop where
 nx:nx d=true
 cl:clT d=true
 dp:dpT d≤k
theorem uI:∀ {xs:List T},(∀ x ∈ xs,clT x=true)→nh xs=true
 | [],_=>rfl
 | x :: xs,h=>by rw [nh,h x (List.mem_cons_self ..),uI fun y hy=>h y (List.mem_cons_of_mem _ hy)]; rfl
theorem uy {k:Nat}:∀ {xs:List T},(∀ x ∈ xs,dpT x≤k)→ui xs≤k
 | [],_=>Nat.zero_le _
 | x :: xs,h=>by rw [ui]; exact Nat.max_le.mpr ⟨h x (List.mem_cons_self ..),uy fun y hy=>h y (List.mem_cons_of_mem _ hy)⟩
theorem Tk.lst {k:Nat} {xs:List T} (h:∀ x ∈ xs,Tk k x):Tk (k + 1) (.lst xs):=
 ⟨tP fun x hx=>(h x hx).nx,by rw [clT]; exact uI fun x hx=>(h x hx).cl,by rw [dpT]; exact Nat.succ_le_succ (uy fun x hx=>(h x hx).dp)⟩
theorem Tk.tup {k:Nat} {xs:List T} (h:∀ x ∈ xs,Tk k x):Tk (k + 1) (.tup xs):=
 ⟨by have:=tP fun x hx=>(h x hx).nx; simpa only [Sv.nx] using this,by rw [clT]; exact uI fun x hx=>(h x hx).cl,by rw [dpT]; exact Nat.succ_le_succ (uy fun x hx=>(h x hx).dp)⟩
theorem Tk.mono {k k':Nat} {d:T} (h:Tk k d) (e:k≤k'):Tk k' d:=⟨h.nx,h.cl,Nat.le_trans h.dp e⟩
theorem Tk.int (k:Nat) (i:Int):Tk k (.int i):=⟨rfl,rfl,Nat.zero_le _⟩
theorem Tk.in (k:Nat) (xs:List Int):Tk (k + 1) (inT xs):=.lst fun x hx=>by obtain ⟨i,_,rfl⟩:=List.mem_map.mp hx; exact .int k i
theorem Tk.gm (m w:Nat) (M:Nat→Nat→Int):Tk 2 (gm m w M):=.lst fun x hx=>by
 obtain ⟨i,_,rfl⟩:=List.mem_map.mp hx
 exact .lst fun y hy=>by obtain ⟨j,_,rfl⟩:=List.mem_map.mp hy; exact .int 0 _
noncomputable def Th (d:T):Prop:=Tk 4 d∧∀ xs,d=.lst xs→xs.length≤100
section
variable {N m w:Nat} {M:Nat→Nat→Int} {p0 p1 p2:Int} {ps:List T} {r2 r3 r4:Option T}
noncomputable def pT (p0 p1 p2:Int) (ps:List T):T:=.lst (.int p0 :: .int p1 :: .int p2 :: ps)
noncomputable def sp (m w:Nat) (M:Nat→Nat→Int) (p0 p1 p2:Int) (ps:List T) (x:T) (i j:Nat):aC:=[some (gm m w M),some (pT p0 p1 p2 ps),some x,some (.int (i:Nat)),some (.int (j:Nat))]
theorem sh8 (F:List T→T) (a b c d e f g h:T):iD F [a,b,c,d,e,f,g,h]=.ok (F [a,b,c,d,e,f,g,h]):=rfl
theorem sh3 (F:List T→T) (a b c:T):iD F [a,b,c]=.ok (F [a,b,c]):=rfl
noncomputable def eV:E:=.ix (.lst [(.cI 2),(.neg (.cI 1)),(.cB true),(.cB false),(.cS "1"),.cN,(.tup [(.cI 1),(.cI 1)]),(.lst [(.cI 1)])]) (.ix (.var 1) (.cI 0))
theorem str1:clT (.str "1")=true:=by decide +kernel
theorem Kt {x:T} {i j:Nat} (h:0≤p0∧p0 < 8):∃ v,Tk 1 v∧yE aN eV (sp m w M p0 p1 p2 ps x i j)=.ok v:=by
 have key:∃ v,Tk 1 v∧zI (.lst [.int 2,.int (-1),.bl true,.bl false,.str "1",.non,.tup [.int 1,.int 1],.lst [.int 1]]) (.int p0)=.ok v:=by
   obtain ⟨k,rfl⟩:∃ k:Nat,p0=(k:Nat):=⟨p0.toNat,by omega⟩
   match k,(show k < 8 by omega) with
   | 0,_=>exact ⟨_,.int _ _,gX _ _⟩
   | 1,_=>exact ⟨_,.int _ _,oG _ _ _⟩
   | 2,_=>exact ⟨_,⟨rfl,rfl,Nat.zero_le _⟩,oF _ _ _ _⟩
   | 3,_=>exact ⟨_,⟨rfl,rfl,Nat.zero_le _⟩,sM _ _ _ _ _⟩
   | 4,_=>exact ⟨_,⟨rfl,str1,Nat.zero_le _⟩,dF (k:=4) rfl⟩
   | 5,_=>exact ⟨_,⟨rfl,rfl,Nat.zero_le _⟩,dF (k:=5) rfl⟩
   | 6,_=>exact ⟨_,⟨rfl,rfl,by decide⟩,dF (k:=6) rfl⟩
   | 7,_=>exact ⟨_,⟨rfl,rfl,by decide⟩,dF (k:=7) rfl⟩
 obtain ⟨v,hv,e⟩:=key
 refine ⟨v,hv,?_⟩
 unfold eV sp pT
 simp only [ag,oM,g8,aM,FW,Gz,jg,dq,bX,af,ae,Jt,jP,jK,Ou.aa,ax,gX,List.getElem?_cons_zero,List.getElem?_cons_succ,sh8,e]
noncomputable def eT:E:=.ix (.lst [(.op .add (.ix (.var 2) (.var 3)) (.lst [(.cI 1)])),(.sl (.ix (.var 2) (.var 3)) (.cI 1) .cN),(.bi .tuple [(.ix (.var 2) (.var 3))]),(.lst []),.cN]) (.op .sub (.ix (.var 1) (.cI 0)) (.cI 8))
theorem KA {i j:Nat} (h:8≤p0∧p0 < 13) (hw:w≤7) (hi:i < m):∃ v,Tk 1 v∧yE aN eT (sp m w M p0 p1 p2 ps (gm m w M) i j)=.ok v:=by
 have r:zI (gm m w M) (.int (i:Nat))=.ok (line w fun j=>.int (M i j)):=oj hi
 have rt:∀ x ∈ (List.range w).map fun j=>T.int (M i j),Tk 0 x:=fun x hx=>by obtain ⟨j,_,rfl⟩:=List.mem_map.mp hx; exact .int 0 _
 have a:z2 .add (line w fun j=>.int (M i j)) (.lst [.int 1])=.ok (.lst ((List.range w).map (fun j=>.int (M i j))++[.int 1])):=by
   rw [line,qL (by rw [List.length_map,List.length_range]; exact Nat.lt_of_le_of_lt (Nat.add_le_add_right hw 1) (by decide))]
 have s:zSl (line w fun j=>.int (M i j)) (some 1) none=.ok (.lst (pd ((List.range w).map fun j=>.int (M i j)) (some 1) none)):=rfl
 have t:zB .tuple [line w fun j=>.int (M i j)]=.ok (.tup ((List.range w).map fun j=>.int (M i j))):=wA _
 have key:∃ v,Tk 1 v∧zI (.lst [.lst ((List.range w).map (fun j=>.int (M i j))++[.int 1]),.lst (pd ((List.range w).map fun j=>.int (M i j)) (some 1) none),.tup ((List.range w).map fun j=>.int (M i j)),.lst [],.non]) (.int (p0 - 8))=.ok v:=by
   obtain ⟨k,hk⟩:∃ k:Nat,p0 - 8=(k:Nat):=⟨(p0 - 8).toNat,by omega⟩
   rw [hk]
   match k,(show k < 5 by omega) with
   | 0,_=>exact ⟨_,.lst fun x hx=>(List.mem_append.mp hx).elim (rt x) fun z=>by obtain rfl:=List.mem_singleton.mp z; exact .int 0 _,gX _ _⟩
   | 1,_=>exact ⟨_,.lst fun x hx=>rt x (List.mem_of_mem_drop (List.mem_of_mem_take hx)),oG _ _ _⟩
   | 2,_=>exact ⟨_,.tup rt,oF _ _ _ _⟩
   | 3,_=>exact ⟨_,⟨rfl,rfl,by decide⟩,sM _ _ _ _ _⟩
   | 4,_=>exact ⟨_,⟨rfl,rfl,by decide⟩,dF (k:=4) rfl⟩
 obtain ⟨v,hv,e⟩:=key
 refine ⟨v,hv,?_⟩
 unfold eT sp pT
 simp only [ag,oM,aM,cJ,dq,bX,bA,pW,af,ae,aH,jB,jP,uP,Ou.aa,ax,oy,gX,List.getElem?_cons_zero,List.getElem?_cons_succ,kv,r,a,s,t,e]
noncomputable def eU:E:=.ix (.lst [(.bi .tuple [(.var 2)]),(.comp [none] (.nm 0) (.seq (.var 2)) [] (.op .add (.var 0) (.lst [(.cI 0),(.cI 0),(.cI 0),(.cI 0),(.cI 0),(.cI 0),(.cI 0)]))),(.op .mul (.var 2) (.cI 8))]) (.op .sub (.ix (.var 1) (.cI 0)) (.cI 13))
theorem KU {i j:Nat} (h:13≤p0∧p0 < 16) (hm:m≤7) (hw:w≤7):∃ v,Th v∧yE aN eU (sp m w M p0 p1 p2 ps (gm m w M) i j)=.ok v:=by
 have row:∀ i,Tk 1 (line w fun j=>.int (M i j)):=fun i=>.lst fun x hx=>by obtain ⟨j,_,rfl⟩:=List.mem_map.mp hx; exact .int 0 _
 have rows:∀ x ∈ (List.range m).map fun i=>line w fun j=>T.int (M i j),Tk 1 x:=fun x hx=>by obtain ⟨i,_,rfl⟩:=List.mem_map.mp hx; exact row i
 have t:zB .tuple [gm m w M]=.ok (.tup ((List.range m).map fun i=>line w fun j=>.int (M i j))):=wA _
 have mu:z2 .mul (gm m w M) (.int 8)=.ok (.lst (List.replicate 8 ((List.range m).map fun i=>line w fun j=>.int (M i j))).flatten):=by
   show (if (0:Int)≤8∧(8:Int) < 1000∧((List.range m).map fun i=>line w fun j=>T.int (M i j)).length * (8:Int).toNat < ai then _ else _)=_
   rw [if_pos ⟨by decide,by decide,by rw [List.length_map,List.length_range]; exact Nat.lt_of_le_of_lt (Nat.mul_le_mul_right _ hm) (by decide)⟩]
   rfl
 have cp:yE aN (.comp [none] (.nm 0) (.seq (.var 2)) [] (.op .add (.var 0) (.lst [(.cI 0),(.cI 0),(.cI 0),(.cI 0),(.cI 0),(.cI 0),(.cI 0)]))) (sp m w M p0 p1 p2 ps (gm m w M) i j)=.ok (.lst ((List.range m).map fun i=>.lst ((List.range w).map (fun j=>.int (M i j))++[.int 0,.int 0,.int 0,.int 0,.int 0,.int 0,.int 0]))):=by
   refine bz (iX (n:=m) (G:=fun i=>line w fun j=>.int (M i j)) (by rw [ag]; rfl)) (by rw [List.length_map,List.length_range]; exact bJ hm) (bC _ fun i _=>?_)
   have a:z2 .add (line w fun j=>.int (M i j)) (.lst [.int 0,.int 0,.int 0,.int 0,.int 0,.int 0,.int 0])=.ok (.lst ((List.range w).map (fun j=>.int (M i j))++[.int 0,.int 0,.int 0,.int 0,.int 0,.int 0,.int 0])):=by
     rw [line,qL (by rw [List.length_map,List.length_range]; exact Nat.lt_of_le_of_lt (Nat.add_le_add_right hw 7) (by decide))]
   have s7:∀ (F:List T→T) (a b c d e f g:T),iD F [a,b,c,d,e,f,g]=.ok (F [a,b,c,d,e,f,g]):=fun _ _ _ _ _ _ _ _=>rfl
   simp only [ag,aM,cJ,dq,af,ae,bo,Ou.aa,ax,aw,dB,aj,List.getElem?_cons_zero,List.set_cons_zero,List.map_cons,List.map_nil,List.nil_append,List.cons_append,Option.bind_none,if_true,aj,s7,a]
 have key:∃ v,Th v∧zI (.lst [.tup ((List.range m).map fun i=>line w fun j=>.int (M i j)),.lst ((List.range m).map fun i=>.lst ((List.range w).map (fun j=>.int (M i j))++[.int 0,.int 0,.int 0,.int 0,.int 0,.int 0,.int 0])),.lst (List.replicate 8 ((List.range m).map fun i=>line w fun j=>.int (M i j))).flatten]) (.int (p0 - 13))=.ok v:=by
   obtain ⟨k,hk⟩:∃ k:Nat,p0 - 13=(k:Nat):=⟨(p0 - 13).toNat,by omega⟩
   rw [hk]
   match k,(show k < 3 by omega) with
   | 0,_=>exact ⟨_,⟨(Tk.tup rows).mono (by decide),fun _ z=>by cases z⟩,gX _ _⟩
   | 1,_=>
     refine ⟨_,⟨(Tk.lst (k:=1) fun x hx=>?_).mono (by decide),fun xs z=>?_⟩,oG _ _ _⟩
     · obtain ⟨i,_,rfl⟩:=List.mem_map.mp hx
       refine .lst fun y hy=>(List.mem_append.mp hy).elim (fun z=>by obtain ⟨j,_,rfl⟩:=List.mem_map.mp z; exact .int 0 _) fun z=>?_
       simp only [List.mem_cons,List.not_mem_nil,or_false,or_self] at z
       subst z
       exact .int 0 _
     · cases z
       rw [List.length_map,List.length_range]
       omega
   | 2,_=>
     refine ⟨_,⟨(Tk.lst (k:=1) fun x hx=>?_).mono (by decide),fun xs z=>?_⟩,oF _ _ _ _⟩
     · obtain ⟨ys,hy,hx⟩:=List.mem_flatten.mp hx
       rw [List.eq_of_mem_replicate hy] at hx
       exact rows x hx
     · cases z
       rw [List.length_flatten,List.map_replicate,List.sum_replicate_nat,List.length_map,List.length_range]
       omega
 obtain ⟨v,hv,e⟩:=key
 refine ⟨v,hv,?_⟩
 unfold eU sp pT at *
 simp only [ag,aM,cJ,dq,bX,bA,af,ae,yX,Ou.aa,ax,oy,gX,List.getElem?_cons_zero,List.getElem?_cons_succ,cp,sh3,t,mu,e]
noncomputable def eX:E:=.ix (.lst [(.lst []),(.lst [(.lst [])]),.cN,(.cI 7),(.cB true),(.cS "1"),(.tup []),(.lst [(.cI 1),(.cI 1)])]) (.op .sub (.ix (.var 1) (.cI 0)) (.cI 16))
theorem Lq {x:T} {i j:Nat} (h:16≤p0∧p0 < 24):∃ v,Th v∧yE aN eX (sp m w M p0 p1 p2 ps x i j)=.ok v:=by
 have key:∃ v,Th v∧zI (.lst [.lst [],.lst [.lst []],.non,.int 7,.bl true,.str "1",.tup [],.lst [.int 1,.int 1]]) (.int (p0 - 16))=.ok v:=by
   obtain ⟨k,hk⟩:∃ k:Nat,p0 - 16=(k:Nat):=⟨(p0 - 16).toNat,by omega⟩
   rw [hk]
   match k,(show k < 8 by omega) with
   | 0,_=>exact ⟨_,⟨⟨rfl,rfl,by decide⟩,fun _ z=>by cases z; decide⟩,gX _ _⟩
   | 1,_=>exact ⟨_,⟨⟨rfl,rfl,by decide⟩,fun _ z=>by cases z; simp⟩,oG _ _ _⟩
   | 2,_=>exact ⟨_,⟨⟨rfl,rfl,Nat.zero_le _⟩,fun _ z=>by cases z⟩,oF _ _ _ _⟩
   | 3,_=>exact ⟨_,⟨.int _ _,fun _ z=>by cases z⟩,sM _ _ _ _ _⟩
   | 4,_=>exact ⟨_,⟨⟨rfl,rfl,Nat.zero_le _⟩,fun _ z=>by cases z⟩,dF (k:=4) rfl⟩
   | 5,_=>exact ⟨_,⟨⟨rfl,str1,Nat.zero_le _⟩,fun _ z=>by cases z⟩,dF (k:=5) rfl⟩
   | 6,_=>exact ⟨_,⟨⟨rfl,rfl,by decide⟩,fun _ z=>by cases z⟩,dF (k:=6) rfl⟩
   | 7,_=>exact ⟨_,⟨⟨rfl,rfl,by decide⟩,fun _ z=>by cases z; simp⟩,dF (k:=7) rfl⟩
 obtain ⟨v,hv,e⟩:=key
 refine ⟨v,hv,?_⟩
 unfold eX sp pT
 simp only [ag,oM,g8,aM,FW,cJ,jg,dq,bX,af,ae,jB,jP,jK,Ou.aa,ax,oy,gX,List.getElem?_cons_zero,List.getElem?_cons_succ,sh8,e]
end
end K50
namespace K50
open PySem PySem.Spec L2 Sv
open Ev (D aZ bp ai)
theorem D6 {Ψ:FnT} {τ:aC} {i m w:Nat} {F:Nat→Nat→T} (hm:m≤7) (h:ax τ i=.ok (jL m w F)):yE Ψ (.comp [none] (.nm 0) (.seq (.var i)) [] (.bi .list [(.var 0)])) τ=.ok (jL m w F):=by
 refine bz (iX (n:=m) (G:=fun i=>line w (F i)) (by rw [ag,h]; rfl)) (by rw [List.length_map,List.length_range]; exact bJ hm) (bC _ fun j hj=>?_)
 unfold line
 simp only [ag,bA,af,ae,bo,Ou.aa,ax,aw,dB,sJ,aj,List.getElem?_cons_zero,List.set_cons_zero,List.map_cons,List.map_nil,List.nil_append,List.cons_append,Option.bind_none,if_true,aj]
theorem qg (m w:Nat) (F:Nat→Nat→T):lvT (jL m w F)=2:=by
 show (if ((List.range m).map fun i=>line w (F i)).all isL=true then 2 else 1)=2
 rw [if_pos]
 rw [List.all_map,List.all_eq_true]
 intro r _
 rfl
section
variable {N m w:Nat} {M:Nat→Nat→Int} {p0 p1 p2:Int} {ps:List T}
theorem xn {n k:Nat} {F:Nat→T} (h:k < n):ixN ((List.range n).map F).length ((k:Nat):Int)=some k:=by
 rw [List.length_map,List.length_range]
 exact Es h
theorem DV {i j:Nat} {v:T} (hi:i < m) (hj:j < w) (he:yE aN eV (sp m w M p0 p1 p2 ps (gm m w M) i j)=.ok v) :
   yS aN bV ⟨aX,[2],0⟩ N (.put (.ix (.var 2) (.var 3)) (.var 4) eV) (sp m w M p0 p1 p2 ps (gm m w M) i j) [(2,2)]=.ok (.nx (sp m w M p0 p1 p2 ps (.lst (((List.range m).map fun i=>line w fun j=>.int (M i j)).set i (.lst (((List.range w).map fun j=>.int (M i j)).set j v)))) i j) [(2,2)]):=by
 have hd:dn (gP2 aX eV (.var 3) (.var 4)) [(2,2)]=[(2,2)]:=by unfold eV; simp only [aq,bf,JF,gts,bQ,Bool.and_true,Bool.and_false,Bool.or_false,Bool.false_eq_true,if_true,if_false,Nat.reduceBEq,Nat.reduceLT,Nat.lt_irrefl,decide_false,and_true,and_false]
 have gr:((List.range m).map fun i=>line w fun j=>T.int (M i j))[i]?.bind jS=some ((List.range w).map fun j=>T.int (M i j)):=by
   rw [List.getElem?_map,List.getElem?_range hi]
   rfl
 have l1:gH (ax (sp m w M p0 p1 p2 ps (gm m w M) i j) 2)=some ((List.range m).map fun i=>line w fun j=>.int (M i j)):=rfl
 have l2:intOf (.int (i:Nat))=some ((i:Nat):Int):=rfl
 have l3:intOf (.int (j:Nat))=some ((j:Nat):Int):=rfl
 rw [FG,hd,if_pos (by rfl),he,Ou.aa,l1,aH,aE (i:=3) rfl,Ou.aa,l2,aH,xn hi,aH,gr,aH,aE (i:=4) rfl,Ou.aa]
 unfold wj
 rw [l3,aH,xn hj,aH]
 rfl
theorem Jb {i j:Nat} {v:T} (hi:i < m) (he:yE aN eT (sp m w M p0 p1 p2 ps (gm m w M) i j)=.ok v) :
   ∃ o,yS aN bV ⟨aX,[2],0⟩ N (.put (.var 2) (.var 3) eT) (sp m w M p0 p1 p2 ps (gm m w M) i j) [(2,2)]=.ok (.nx (sp m w M p0 p1 p2 ps (.lst (((List.range m).map fun i=>line w fun j=>.int (M i j)).set i v)) i j) o):=by
 have l1:gH (ax (sp m w M p0 p1 p2 ps (gm m w M) i j) 2)=some ((List.range m).map fun i=>line w fun j=>.int (M i j)):=rfl
 have l2:intOf (.int (i:Nat))=some ((i:Nat):Int):=rfl
 have hd:∃ o,dn (gP aX eT (.var 3)) [(2,2)]=o∧0 < cg o 2:=by
   refine ⟨_,rfl,?_⟩
   unfold eT
   simp only [aq,bf,cg,J6,gts,bQ,List.lookup_cons,Option.getD_some,Bool.true_and,Bool.and_true,Bool.and_false,Bool.or_false,Bool.false_eq_true,if_false,beq_self_eq_true,Nat.reduceBEq,Nat.reduceLT,Nat.lt_irrefl,decide_false,and_true,true_and,and_false]
 obtain ⟨o,ho,hl⟩:=hd
 refine ⟨dn (fun i lv=>i == 2 && lv == 2) (dn (gP aX eT (.var 3)) [(2,2)]),?_⟩
 rw [HQ,he,Ou.aa,l1,aH,aE (i:=3) rfl,Ou.aa,CB,l2,aH,xn hi,aH,if_pos (by rw [ho]; exact hl)]
 rfl
theorem Cy {i:Nat} {v:T} (hm:m≤7) (hv:Tk 2 v):Th (.lst (((List.range m).map fun i=>line w fun j=>.int (M i j)).set i v)):=by
 refine ⟨(Tk.lst (k:=2) fun x hx=>?_).mono (by decide),fun xs z=>?_⟩
 · rcases List.mem_or_eq_of_mem_set hx with hx | rfl
   · obtain ⟨i,_,rfl⟩:=List.mem_map.mp hx
     exact .lst fun y hy=>by obtain ⟨j,_,rfl⟩:=List.mem_map.mp hy; exact .int 1 _
   · exact hv
 · cases z
   rw [List.length_set,List.length_map,List.length_range]
   omega
theorem Ab (hm:1≤m∧m≤7) (hw:1≤w∧w≤7) (h0:0≤p0∧p0 < 24) (h1:0≤p1) (h2:0≤p2):∃ d,Th d∧jx [gm m w M,pT p0 p1 p2 ps]=.ok d:=by
 have d1:z2 .mod (.int p1) (.int (m:Nat))=.ok (.int (p1 % (m:Nat))):=gR (by omega)
 have d2:z2 .mod (.int p2) (.int (w:Nat))=.ok (.int (p2 % (w:Nat))):=gR (by omega)
 have e1:=Int.emod_nonneg p1 (show ((m:Nat):Int) ≠ 0 by omega)
 have e2:=Int.emod_lt_of_pos p1 (show (0:Int) < ((m:Nat):Int) by omega)
 have e3:=Int.emod_nonneg p2 (show ((w:Nat):Int) ≠ 0 by omega)
 have e4:=Int.emod_lt_of_pos p2 (show (0:Int) < ((w:Nat):Int) by omega)
 obtain ⟨i,hi⟩:∃ i:Nat,p1 % ((m:Nat):Int)=(i:Nat):=⟨(p1 % ((m:Nat):Int)).toNat,by omega⟩
 obtain ⟨j,hj⟩:∃ j:Nat,p2 % ((w:Nat):Int)=(j:Nat):=⟨(p2 % ((w:Nat):Int)).toNat,by omega⟩
 rw [hi] at d1
 rw [hj] at d2
 have im:i < m:=by omega
 have jw:j < w:=by omega
 have l0:zB .len [gm m w M]=.ok (.int (m:Nat)):=i7 m _
 have r0:zI (gm m w M) (.int 0)=.ok (line w fun j=>.int (M 0 j)):=oj (i:=0) (by omega)
 have cp:=D6 (Ψ:=aN) (τ:=[some (gm m w M),some (pT p0 p1 p2 ps),none,none,none]) (i:=0) (F:=fun i j=>.int (M i j)) hm.2 rfl
 have s1:yS aN bV ⟨aX,[2],0⟩ (aI [gm m w M,pT p0 p1 p2 ps]) (.set (.nm 2) (.comp [none] (.nm 0) (.seq (.var 0)) [] (.bi .list [(.var 0)]))) [some (gm m w M),some (pT p0 p1 p2 ps),none,none,none] []=.ok (.nx [some (gm m w M),some (pT p0 p1 p2 ps),some (gm m w M),none,none] [(2,2)]):=by
   have lv:lvT (gm m w M)=2:=qg _ _ _
   rw [ba _ _ _ _ _ _ _ _ (by simp only [kM]),cp,Ou.aa]
   show pw _ (cm _ _ _ _ (gm m w M) _)=_
   simp only [mU,Bw,aA,aq,aw,cm,List.getElem?_cons_zero,List.getElem?_cons_succ,List.set_cons_zero,List.set_cons_succ,List.contains_cons,List.contains_nil,Option.isSome_some,Bool.and_true,Bool.or_false,if_true,if_false,beq_self_eq_true,Nat.min_def,and_true,reduceCtorEq,Nat.reduceLeDiff,lv]
   rfl
 have s2:yS aN bV ⟨aX,[2],0⟩ (aI [gm m w M,pT p0 p1 p2 ps]) (.set (.nm 3) (.op .mod (.ix (.var 1) (.cI 1)) (.bi .len [(.var 0)]))) [some (gm m w M),some (pT p0 p1 p2 ps),some (gm m w M),none,none] [(2,2)]=.ok (.nx [some (gm m w M),some (pT p0 p1 p2 ps),some (gm m w M),some (.int (i:Nat)),none] [(2,2)]):=by
   unfold pT
   simp only [ag,aM,cJ,bX,bA,af,ae,ba,gq,mD,aA,aq,bf,Ou.aa,ax,aw,cm,frg,fO,gts,bQ,tgN,oG,List.getElem?_cons_zero,List.getElem?_cons_succ,List.set_cons_zero,List.set_cons_succ,List.contains_cons,List.contains_nil,Option.isSome_some,Bool.and_true,Bool.and_false,Bool.or_false,Bool.false_eq_true,if_true,if_false,Nat.reduceBEq,Nat.reduceLT,Nat.min_def,Nat.lt_irrefl,decide_false,and_true,and_false,l0,d1]
 have s3:yS aN bV ⟨aX,[2],0⟩ (aI [gm m w M,pT p0 p1 p2 ps]) (.set (.nm 4) (.op .mod (.ix (.var 1) (.cI 2)) (.bi .len [(.ix (.var 0) (.cI 0))]))) [some (gm m w M),some (pT p0 p1 p2 ps),some (gm m w M),some (.int (i:Nat)),none] [(2,2)]=.ok (.nx (sp m w M p0 p1 p2 ps (gm m w M) i j) [(2,2)]):=by
   unfold pT sp pT
   simp only [ag,aM,cJ,bX,bA,af,ae,ba,gq,mD,aA,aq,bf,Ou.aa,ax,aw,cm,frg,fO,gts,bQ,tgN,oF,List.getElem?_cons_zero,List.getElem?_cons_succ,List.set_cons_zero,List.set_cons_succ,List.contains_cons,List.contains_nil,Option.isSome_some,Bool.and_true,Bool.and_false,Bool.or_false,Bool.false_eq_true,if_true,if_false,Nat.reduceBEq,Nat.min_def,Nat.lt_irrefl,decide_false,and_true,and_false,r0,i7,d2]
 have ci:∀ c:Int,yE aN (.cmp .lt (.ix (.var 1) (.cI 0)) (.cI c)) (sp m w M p0 p1 p2 ps (gm m w M) i j)=.ok (.bl (decide (p0 < c))):=fun c=>by
   unfold sp pT
   simp only [ag,aM,bt,bX,az,Ou.aa,ax,nB,gX,List.getElem?_cons_zero,List.getElem?_cons_succ]
 have gi:∀ c:Int,dn (gU aX 2 (.cmp .lt (.ix (.var 1) (.cI 0)) (.cI c))) [(2,2)]=[(2,2)]:=fun c=>by simp only [aq,bf,fO,gts,Bool.and_true,Bool.and_false,Bool.or_false,Bool.false_eq_true,if_true,if_false,Nat.reduceBEq,and_true,and_false]
 have it_t:∀ {c:Int} {A B:List S} {r:FlT},p0 < c→ySs aN bV ⟨aX,[2],0⟩ (aI [gm m w M,pT p0 p1 p2 ps]) A (sp m w M p0 p1 p2 ps (gm m w M) i j) [(2,2)]=.ok r→yS aN bV ⟨aX,[2],0⟩ (aI [gm m w M,pT p0 p1 p2 ps]) (.ite (.cmp .lt (.ix (.var 1) (.cI 0)) (.cI c)) A B) (sp m w M p0 p1 p2 ps (gm m w M) i j) [(2,2)]=.ok r:=fun {c A B r} hc h=>by
   rw [bR,ci,Ou.aa,decide_eq_true hc,dE]
   show ySs _ _ _ _ _ _ (dn (gU aX 2 (.cmp .lt (.ix (.var 1) (.cI 0)) (.cI c))) [(2,2)])=_
   rw [gi]
   exact h
 have it_f:∀ {c:Int} {A B:List S} {r:FlT},¬ p0 < c→ySs aN bV ⟨aX,[2],0⟩ (aI [gm m w M,pT p0 p1 p2 ps]) B (sp m w M p0 p1 p2 ps (gm m w M) i j) [(2,2)]=.ok r→yS aN bV ⟨aX,[2],0⟩ (aI [gm m w M,pT p0 p1 p2 ps]) (.ite (.cmp .lt (.ix (.var 1) (.cI 0)) (.cI c)) A B) (sp m w M p0 p1 p2 ps (gm m w M) i j) [(2,2)]=.ok r:=fun {c A B r} hc h=>by
   rw [bR,ci,Ou.aa,decide_eq_false hc,dS]
   show ySs _ _ _ _ _ _ (dn (gU aX 2 (.cmp .lt (.ix (.var 1) (.cI 0)) (.cI c))) [(2,2)])=_
   rw [gi]
   exact h
 have set2:∀ {e:E} {v:T},oZ ⟨aX,[2],0⟩ e=false→yE aN e (sp m w M p0 p1 p2 ps (gm m w M) i j)=.ok v→∃ o,yS aN bV ⟨aX,[2],0⟩ (aI [gm m w M,pT p0 p1 p2 ps]) (.set (.nm 2) e) (sp m w M p0 p1 p2 ps (gm m w M) i j) [(2,2)]=.ok (.nx (sp m w M p0 p1 p2 ps v i j) o):=fun {e v} hm he=>by
   rw [ba _ _ _ _ _ _ _ _ hm,he,Ou.aa]
   exact ⟨_,rfl⟩
 have fin:∃ d o,Th d∧yS aN bV ⟨aX,[2],0⟩ (aI [gm m w M,pT p0 p1 p2 ps]) (.ite (.cmp .lt (.ix (.var 1) (.cI 0)) (.cI 8)) [.put (.ix (.var 2) (.var 3)) (.var 4) eV] [.ite (.cmp .lt (.ix (.var 1) (.cI 0)) (.cI 13)) [.put (.var 2) (.var 3) eT] [.ite (.cmp .lt (.ix (.var 1) (.cI 0)) (.cI 16)) [.set (.nm 2) eU] [.set (.nm 2) eX]]]) (sp m w M p0 p1 p2 ps (gm m w M) i j) [(2,2)]=.ok (.nx (sp m w M p0 p1 p2 ps d i j) o):=by
   by_cases c1:p0 < 8
   · obtain ⟨v,hv,ev⟩:=Kt (m:=m) (w:=w) (M:=M) (p1:=p1) (p2:=p2) (ps:=ps) (x:=gm m w M) (i:=i) (j:=j) ⟨h0.1,c1⟩
     refine ⟨_,_,Cy (w:=w) (M:=M) (i:=i) hm.2 (.lst fun x hx=>?_),it_t c1 (by rw [aT (DV im jw ev),aD])⟩
     rcases List.mem_or_eq_of_mem_set hx with hx | rfl
     · obtain ⟨k,_,rfl⟩:=List.mem_map.mp hx
       exact .int 1 _
     · exact hv
   · by_cases c2:p0 < 13
     · obtain ⟨v,hv,ev⟩:=KA (M:=M) (p1:=p1) (p2:=p2) (ps:=ps) (j:=j) ⟨by omega,c2⟩ hw.2 im
       obtain ⟨o,s⟩:=Jb (N:=aI [gm m w M,pT p0 p1 p2 ps]) im ev
       exact ⟨_,_,Cy (w:=w) (M:=M) (i:=i) hm.2 (hv.mono (by decide)),it_f c1 (by rw [aT (it_t c2 (by rw [aT s,aD])),aD])⟩
     · by_cases c3:p0 < 16
       · obtain ⟨v,hv,ev⟩:=KU (M:=M) (p1:=p1) (p2:=p2) (ps:=ps) (i:=i) (j:=j) ⟨by omega,c3⟩ hm.2 hw.2
         obtain ⟨o,s⟩:=set2 (by simp only [tR,eU]) ev
         exact ⟨v,o,hv,it_f c1 (by rw [aT (it_f c2 (by rw [aT (it_t c3 (by rw [aT s,aD])),aD])),aD])⟩
       · obtain ⟨v,hv,ev⟩:=Lq (m:=m) (w:=w) (M:=M) (p1:=p1) (p2:=p2) (ps:=ps) (x:=gm m w M) (i:=i) (j:=j) ⟨by omega,h0.2⟩
         obtain ⟨o,s⟩:=set2 (by simp only [tR,eX]) ev
         exact ⟨v,o,hv,it_f c1 (by rw [aT (it_f c2 (by rw [aT (it_f c3 (by rw [aT s,aD])),aD])),aD])⟩
 obtain ⟨d,o,hd,s4⟩:=fin
 refine ⟨d,hd,?_⟩
 rw [so,show fF=[.set (.nm 2) (.comp [none] (.nm 0) (.seq (.var 0)) [] (.bi .list [(.var 0)])),.set (.nm 3) (.op .mod (.ix (.var 1) (.cI 1)) (.bi .len [(.var 0)])),.set (.nm 4) (.op .mod (.ix (.var 1) (.cI 2)) (.bi .len [(.ix (.var 0) (.cI 0))])),.ite (.cmp .lt (.ix (.var 1) (.cI 0)) (.cI 8)) [.put (.ix (.var 2) (.var 3)) (.var 4) eV] [.ite (.cmp .lt (.ix (.var 1) (.cI 0)) (.cI 13)) [.put (.var 2) (.var 3) eT] [.ite (.cmp .lt (.ix (.var 1) (.cI 0)) (.cI 16)) [.set (.nm 2) eU] [.set (.nm 2) eX]]],.ret (.var 2)] from rfl]
 rw [aT s1,aT s2,aT s3,aT s4,ah,aJ,aE (i:=2) rfl,Ou.aa,aO,Ou.aa,aB,fG]
end
end K50
namespace K50
open PySem PySem.Spec L2 Sv
open Ev (D aZ bp ai)
theorem KD {Ψ:FnT} {i:Nat} (e:Ψ i=oO):wF Ψ i:=fun a b=>by rw [e]; exact xX _ _ _ _ a b
theorem LZ {Ψ:FnT} {i:Nat} (e:Ψ i=iZ):wF Ψ i:=fun a b=>by rw [e]; exact AH _ _ _ _ a b
theorem Iy {Ψ:FnT} {i:Nat} (e:Ψ i=wO):CP Ψ i:=fun t b hb st sb=>by rw [e]; exact Eg (dv:=4) rfl (KD rfl) t b hb st sb
theorem J4 {Ψ:FnT} {i:Nat} (e:Ψ i=qo):KZ Ψ i:=fun k p=>by rw [e]; exact AU (md:=5) (Iy rfl) k p
theorem L4 {Ψ:FnT} {i:Nat} (e:Ψ i=lC):La Ψ i:=fun d h=>by rw [e]; exact Df (Ψ:=lq) (wh:=15) (cd:=19) (Ku rfl) (LZ rfl) d h
theorem LP {Ψ:FnT} {i:Nat} (e:Ψ i=vz):KO Ψ i:=fun d h=>by rw [e]; exact JD (sl:=11) (fr:=20) (FA rfl) (L4 rfl) d h
theorem K9 (d:T) (h:nx d=true):lQ [d]=.ok (.bl (vp d)):=zS (sl:=11) (rw':=21) (FA rfl) (LP rfl) d h
noncomputable def tq (m w:Nat) (F:Nat→Nat→Int × Int):T:=jL m w fun i j=>fr2 (F i j)
theorem table_at (c:Int) (m w k:Nat) (hm:m≤7) (hw:w≤7) (hk:k < 4):∃ F:Nat→Nat→Int × Int,(∀ i j,Nu (F i j).1 (F i j).2)∧nL [.int c,.int (m:Nat),.int (w:Nat),.int (k:Nat)]=.ok (tq m w F):=
 E5 (Ψ:=nz) (ΨM:=sT) (μ:=sW) (nb:=0) (nu:=6) rfl (uw rfl) c m w k hm hw hk fun p=>J4 (Ψ:=nz) (i:=6) rfl (k:Nat) p
section
variable {m w:Nat} {F:Nat→Nat→Int × Int}
theorem HG (hF:∀ i j,Nu (F i j).1 (F i j).2) (hm:1≤m∧m≤7) (hw:1≤w∧w≤7):vp (tq m w F)=true∧nx (tq m w F)=true:=by
 have h:Tbl ((List.range m).map fun i=>(List.range w).map fun j=>F i j) m w:=⟨by rw [List.length_map,List.length_range],fun r hr=>by
   obtain ⟨i,_,rfl⟩:=List.mem_map.mp hr
   refine ⟨by rw [List.length_map,List.length_range],fun p hp=>?_⟩
   obtain ⟨j,_,rfl⟩:=List.mem_map.mp hp
   exact hF i j⟩
 have:=CY h hm hw
 rw [Gq] at this
 exact this
theorem DE (hF:∀ i j,Nu (F i j).1 (F i j).2) (hm:1≤m∧m≤7) (hw:1≤w∧w≤7):hV [tq m w F]=.ok .non:=by
 obtain ⟨h1,h2⟩:=HG hF hm hw
 have h3:=K9 _ h2
 rw [h1] at h3
 rw [pv]
 simp only [dN,ag,gM,aL,af,ae,bR,aD,ah,aV,dS,gQ,E4,aq,Ou.aa,ax,List.getElem?_cons_zero,Bool.not_true,j0,h3]
noncomputable def mkb (F:Nat→Nat→Int × Int) (i j:Nat):Int:=if (F i j).1=0 then 0 else 1
theorem KP {μ:Nat→Md} {own:Own} {e:E} {w:Nat} {F:Nat→T} (hv:∀ i,e ≠ .var i) (hf:1≤cD μ e):uo ⟨μ,[],1⟩ own e (line w F)=.ok (.rt (line w F)):=by
 unfold uo
 rw [if_neg (by simp [line,isL]),if_pos]
 have hh:1≤min (cD μ e) (lvT (line w F)):=by
   have:1≤lvT (line w F):=by
     show 1≤(if _ then 2 else 1)
     split <;> decide
   exact Nat.le_min.mpr ⟨hf,this⟩
 cases e with
 | var i=>exact absurd rfl (hv i)
 | _=>exact hh
theorem Lb {μ:Nat→Md} {own:Own} {e:E} {m w:Nat} {F:Nat→Nat→T} (hv:∀ i,e ≠ .var i) (hf:cD μ e=2):uo ⟨μ,[],2⟩ own e (jL m w F)=.ok (.rt (jL m w F)):=by
 unfold uo
 rw [if_neg (by simp [jL,line,isL]),if_pos]
 have hh:2≤min (cD μ e) (lvT (jL m w F)):=by rw [hf,qg]; decide
 cases e with
 | var i=>exact absurd rfl (hv i)
 | _=>exact hh
theorem u5 {i:Nat} (hw:w≤7):jI [line w fun j=>fr2 (F i j)]=.ok (line w fun j=>.int (mkb F i j)):=by
 have cp:yE lJ (.comp [none] (.nm 0) (.seq (.var 0)) [] (.ite (.cmp .eq (.ix (.var 0) (.cI 0)) (.cI 0)) (.cI 0) (.cI 1))) [some (line w fun j=>fr2 (F i j))]=.ok (line w fun j=>.int (mkb F i j)):=by
   refine bz (iX (n:=w) (G:=fun j=>fr2 (F i j)) (aE rfl)) (by rw [List.length_map,List.length_range]; exact bJ hw) (bC _ fun j _=>?_)
   have i0:zI (fr2 (F i j)) (.int 0)=.ok (.int (F i j).1):=sU _ _
   unfold mkb
   by_cases h:(F i j).1=0
   · simp only [ag,aM,bt,xj,bX,bo,dE,az,Ou.aa,ax,aw,dB,bP,aj,List.getElem?_cons_zero,List.set_cons_zero,List.map_cons,List.map_nil,List.nil_append,List.cons_append,Option.bind_none,if_true,decide_true,aj,i0,h,decide_true]
   · simp only [ag,aM,bt,xj,bX,bo,dS,az,Ou.aa,ax,aw,dB,bP,aj,List.getElem?_cons_zero,List.set_cons_zero,List.map_cons,List.map_nil,List.nil_append,List.cons_append,Option.bind_none,if_true,if_false,decide_false,aj,i0,h,decide_false,if_neg]
 have rt:∀ own,uo ⟨lF,[],1⟩ own (.comp [none] (.nm 0) (.seq (.var 0)) [] (.ite (.cmp .eq (.ix (.var 0) (.cI 0)) (.cI 0)) (.cI 0) (.cI 1))) (line w fun j=>.int (mkb F i j))=.ok (.rt (line w fun j=>.int (mkb F i j))):=fun own=>KP (fun _=>by intro z; cases z) (by simp [cD])
 rw [rZ,fB,ah,aJ,cp,Ou.aa,rt]
 simp only [aB,fG,Ou.aa,line]
theorem B3 (hF:∀ i j,Nu (F i j).1 (F i j).2) (hm:1≤m∧m≤7) (hw:1≤w∧w≤7):jl [tq m w F]=.ok (gm m w (mkb F)):=by
 have l:=DE hF hm hw
 have cp:yE fY (.comp [none] (.nm 0) (.seq (.var 0)) [] (.call 24 [(.var 0)])) [some (tq m w F)]=.ok (gm m w (mkb F)):=by
   refine bz (iX (n:=m) (G:=fun i=>line w fun j=>fr2 (F i j)) (aE rfl)) (by rw [List.length_map,List.length_range]; exact bJ hm.2) (bC _ fun i _=>?_)
   have y:=u5 (F:=F) (i:=i) hw.2
   simp only [ag,aL,af,ae,bo,Ou.aa,ax,aw,dB,aj,List.getElem?_cons_zero,List.set_cons_zero,List.map_cons,List.map_nil,List.nil_append,List.cons_append,Option.bind_none,if_true,aj,lb,y]
 have rt:∀ own,uo ⟨gj,[],2⟩ own (.comp [none] (.nm 0) (.seq (.var 0)) [] (.call 24 [(.var 0)])) (gm m w (mkb F))=.ok (.rt (gm m w (mkb F))):=fun own=>Lb (fun _=>by intro z; cases z) (by simp [cD,kX])
 rw [rp,fA]
 have s1:yS fY lU ⟨gj,[],2⟩ (aI [tq m w F]) (.expr (.call 23 [(.var 0)])) [some (tq m w F)] []=.ok (.nx [some (tq m w F)] []):=by
   simp only [ag,aL,af,ae,Fc,cy,cO,gK,aq,Ou.aa,ax,List.getElem?_cons_zero,Bool.and_false,Nat.lt_irrefl,decide_false,and_false,j4,j5,l]
 rw [ah,s1,Ou.aa,aV,ah,aJ,cp,Ou.aa,rt]
 simp only [aB,fG,Ou.aa,gm,jL,line]
theorem Lj {Ψ:FnT} {τ:aC} (hm:m≤7) (hw:w≤7) (h:ax τ 9=.ok (tq m w F)):yE Ψ (.comp [none] (.nm 0) (.seq (.var 9)) [] (.comp [none] (.nm 0) (.seq (.var 0)) [] (.bi .int [(.cmp .ne (.ix (.var 0) (.cI 0)) (.cI 0))]))) τ=.ok (gm m w (mkb F)):=by
 refine bz (iX (n:=m) (G:=fun i=>line w fun j=>fr2 (F i j)) (aE h)) (by rw [List.length_map,List.length_range]; exact bJ hm) (bC _ fun i _=>?_)
 have ci:∀ r:aC,yE Ψ (.comp [none] (.nm 0) (.seq (.var 0)) [] (.bi .int [(.cmp .ne (.ix (.var 0) (.cI 0)) (.cI 0))])) (some (line w fun j=>fr2 (F i j)) :: r)=.ok (line w fun j=>.int (mkb F i j)):=fun r=>by
   refine bz (iX (n:=w) (G:=fun j=>fr2 (F i j)) (aE rfl)) (by rw [List.length_map,List.length_range]; exact bJ hw) (bC _ fun j _=>?_)
   have i0:zI (fr2 (F i j)) (.int 0)=.ok (.int (F i j).1):=sU _ _
   unfold mkb
   by_cases h:(F i j).1=0
   · simp only [ag,aM,bt,bX,bA,af,ae,bo,az,Ou.aa,ax,aw,dB,dP,pF,aj,List.getElem?_cons_zero,List.set_cons_zero,List.map_cons,List.map_nil,List.nil_append,List.cons_append,Option.bind_none,Bool.not_true,Bool.false_eq_true,if_true,if_false,decide_true,aj,i0,h,decide_true,pF]
   · simp only [ag,aM,bt,bX,bA,af,ae,bo,az,Ou.aa,ax,aw,dB,dP,pF,aj,List.getElem?_cons_zero,List.set_cons_zero,List.map_cons,List.map_nil,List.nil_append,List.cons_append,Option.bind_none,Bool.not_false,if_true,if_false,decide_false,aj,i0,h,decide_false,if_neg,pF]
 simp only [aj,dB,aw,bo,Ou.aa,List.map_cons,List.map_nil,Option.bind_none,List.set_cons_zero,List.nil_append,List.cons_append,if_true,ci]
end
end K50
namespace K50
open PySem PySem.Spec L2 Sv
open Ev (D aZ bp ai)
mutual
theorem wo:∀ d:T,clT d=true→eqT d d=true
 | .non,_=>rfl
 | .bl b,_=>by simp [eqT]
 | .int i,_=>by simp [eqT]
 | .str x,_=>by simp [eqT]
 | .tup xs,h=>by rw [eqT]; exact nR xs (by simpa [clT] using h)
 | .lst xs,h=>by rw [eqT]; exact nR xs (by simpa [clT] using h)
 | .exo c,h=>by simp [clT] at h
theorem nR:∀ d:List T,nh d=true→rX d d=true
 | [],_=>rfl
 | x :: xs,h=>by
   rw [nh,Bool.and_eq_true] at h
   rw [rX,wo x h.1,nR xs h.2]
   rfl
end
theorem ne_self {d:T} (h:Tk 64 d):zC .ne d d=some false:=by
 have key:∀ d:T,clT d=true→eqT d d=true:=fun d h=>wo d h
 show (if eqK _∧eqK _ then some (!eqT _ _) else none)=some false
 rw [if_pos ⟨⟨h.cl,h.dp⟩,⟨h.cl,h.dp⟩⟩,key d h.cl]
 rfl
theorem BA {Ψ:FnT} {τ:aC} {e e':E} {x:T} (he:yE Ψ e τ=.ok x) (he':yE Ψ e' τ=.ok x) (h:zC .ne x x=some false):yE Ψ (.cmp .ne e e') τ=.ok (.bl false):=by
 rw [bt,he,Ou.aa,he',Ou.aa,h,az]
section
variable {m w:Nat} {M:Nat→Nat→Int}
noncomputable def mF:List S:=[.ite (.not (.bi .all [(.comp [none] (.nm 0) (.seq (.var 1)) [] (.call 26 [(.var 0)]))])) [.ret (.cB false)] []]
theorem qt {N:Nat} (a:Option T) (hw:w≤7):∀ (is:List Nat) (r1:Option T),∃ s1,cT (cn cZ e7 ⟨e6,[],0⟩ N (.nm 1) mF) (is.map fun i=>line w fun j=>.int (M i j)) [a,r1] []=.ok (.nx [a,s1] [])
 | [],r1=>⟨r1,by rw [List.map_nil,cL]⟩
 | i :: is,r1=>by
   obtain ⟨s1,e⟩:=qt (N:=N) a hw is (some (line w fun j=>.int (M i j)))
   refine ⟨s1,?_⟩
   have cp:yE cZ (.comp [none] (.nm 0) (.seq (.var 1)) [] (.call 26 [(.var 0)])) [a,some (line w fun j=>.int (M i j))]=.ok (.lst (((List.range w).map fun j=>T.int (M i j)).map fun _=>.bl true)):=by
     refine bz (iX (n:=w) (G:=fun j=>.int (M i j)) (aE rfl)) (by rw [List.length_map,List.length_range]; exact bJ hw) (kD (p:=fun _=>true) fun y hy=>?_)
     obtain ⟨j,_,rfl⟩:=List.mem_map.mp hy
     rw [j3]
     exact qE _ rfl
   have c:=eM (nD cp)
   rw [show (((List.range w).map fun j=>T.int (M i j)).all fun _=>true)=true by simp] at c
   have t0:cn cZ e7 ⟨e6,[],0⟩ N (.nm 1) mF (line w fun j=>.int (M i j)) [a,r1] []=.ok (.nx [a,some (line w fun j=>.int (M i j))] []):=by
     rw [cG]
     show ySs cZ e7 ⟨e6,[],0⟩ N mF [a,some (line w fun j=>.int (M i j))] []=_
     rw [mF,aT (lD c),aD]
   rw [List.map_cons,bM,t0,Ou.aa,cR,e]
theorem zX (hw:w≤7):gp [gm m w M]=.ok (.bl true):=by
 obtain ⟨s1,e⟩:=qt (N:=aI [gm m w M]) (M:=M) (some (gm m w M)) hw (List.range m) none
 rw [nP,show dk=[.for (.nm 1) (.seq (.var 0)) mF,.ret (.cB true)] from rfl]
 rw [ah,gW,iX (n:=m) (G:=fun i=>line w fun j=>.int (M i j)) (aE rfl),Ou.aa,aq,e,Ou.de,Ou.aa,aV]
 exact sD (by rw [g8])
end
noncomputable def eQ:E:=.or (.not (.isi (.var 8) .bool)) (.or (.cmp .ne (.var 8) (.call 29 [(.var 6)])) (.cmp .ne (.var 7) (.var 6)))
noncomputable def qW:List S:=[.set (.nm 7) (.call 10 [(.var 6)]),.set (.nm 8) (.call 18 [(.var 7)]),.ite eQ [.ret (.cB false)] []]
theorem Gj {N:Nat} {d:T} (hd:Th d) (a0 a1 a2 a3 a4 a5 r6 r7 r8 r9 r10 r11:Option T):∃ s8,cn aY dZ ⟨bG,[5,8],0⟩ N (.nm 6) qW d [a0,a1,a2,a3,a4,a5,r6,r7,r8,r9,r10,r11] []=.ok (.nx [a0,a1,a2,a3,a4,a5,some d,some d,s8,r9,r10,r11] []):=by
 obtain ⟨b,e1,e2⟩:=same d hd.1.nx
 have ec:=AL d hd.1.nx hd.2
 rw [← lX] at e1
 rw [← vD] at e2
 rw [← pX] at ec
 refine ⟨some (.bl b),?_⟩
 have t0:cn aY dZ ⟨bG,[5,8],0⟩ N (.nm 6) qW d [a0,a1,a2,a3,a4,a5,r6,r7,r8,r9,r10,r11] []=ySs aY dZ ⟨bG,[5,8],0⟩ N qW [a0,a1,a2,a3,a4,a5,some d,r7,r8,r9,r10,r11] []:=by
   rw [cG]; rfl
 have s1:yS aY dZ ⟨bG,[5,8],0⟩ N (.set (.nm 7) (.call 10 [(.var 6)])) [a0,a1,a2,a3,a4,a5,some d,r7,r8,r9,r10,r11] []=.ok (.nx [a0,a1,a2,a3,a4,a5,some d,some d,r8,r9,r10,r11] []):=by
   rw [ba _ _ _ _ _ _ _ _ (by simp only [cy,cO,gK,Bool.and_false,Nat.lt_irrefl,decide_false,and_false,p9]),jZ ec (aE rfl),Ou.aa]
   simp only [e8,aA,aq,aw,cm,List.getElem?_cons_zero,List.getElem?_cons_succ,List.set_cons_zero,List.set_cons_succ,List.contains_cons,List.contains_nil,Option.isSome_some,Bool.and_true,Bool.or_false,Bool.false_eq_true,if_false,Nat.reduceBEq,Nat.min_def,and_true]
 have s2:yS aY dZ ⟨bG,[5,8],0⟩ N (.set (.nm 8) (.call 18 [(.var 7)])) [a0,a1,a2,a3,a4,a5,some d,some d,r8,r9,r10,r11] []=.ok (.nx [a0,a1,a2,a3,a4,a5,some d,some d,some (.bl b),r9,r10,r11] []):=by
   rw [ba _ _ _ _ _ _ _ _ (by simp only [cy,cO,gK,Bool.and_false,Nat.lt_irrefl,decide_false,and_false,iw]),jZ e1 (aE rfl),Ou.aa]
   simp only [e8,GP,aA,aq,aw,cm,List.getElem?_cons_zero,List.getElem?_cons_succ,List.set_cons_zero,List.set_cons_succ,List.contains_cons,List.contains_nil,Option.isSome_some,Bool.and_true,Bool.or_false,Bool.or_true,if_true,beq_self_eq_true,Nat.reduceBEq,Nat.min_def,and_true,Nat.reduceLeDiff,iw]
 have c:yE aY eQ [a0,a1,a2,a3,a4,a5,some d,some d,some (.bl b),r9,r10,r11]=.ok (.bl false):=by
   refine ku (a:=false) (b:=false) (eM (a:=true) ?_) fun _=>ku (a:=false) (b:=false) (BA (aE rfl) (jZ e2 (aE rfl)) ?_) fun _=>BA (aE rfl) (aE rfl) (ne_self (hd.1.mono (by decide)))
   · rw [gg,aE (i:=8) rfl]; rfl
   · exact ne_self ⟨rfl,rfl,Nat.zero_le _⟩
 rw [t0,qW,aT s1,aT s2,aT (lD c),aD]
theorem Dt {N:Nat} (a0 a1 a2 a3 a4 a5:Option T) (r9 r10 r11:Option T):∀ (ds:List T) (r6 r7 r8:Option T),(∀ d ∈ ds,Th d)→∃ s6 s7 s8,cT (cn aY dZ ⟨bG,[5,8],0⟩ N (.nm 6) qW) ds [a0,a1,a2,a3,a4,a5,r6,r7,r8,r9,r10,r11] []=.ok (.nx [a0,a1,a2,a3,a4,a5,s6,s7,s8,r9,r10,r11] [])
 | [],r6,r7,r8,_=>⟨r6,r7,r8,by rw [cL]⟩
 | d :: ds,r6,r7,r8,h=>by
   obtain ⟨s8,e⟩:=Gj (N:=N) (h d (List.mem_cons_self ..)) a0 a1 a2 a3 a4 a5 r6 r7 r8 r9 r10 r11
   obtain ⟨t6,t7,t8,e'⟩:=Dt (N:=N) a0 a1 a2 a3 a4 a5 r9 r10 r11 ds (some d) (some d) s8 fun x hx=>h x (List.mem_cons_of_mem _ hx)
   exact ⟨t6,t7,t8,by rw [bM,e,Ou.aa,cR,e']⟩
noncomputable def eR:E:=.or (.not (.isi (.var 8) .list)) (.or (.cmp .ne (.var 8) (.var 10)) (.not (.bi .all [(.comp [none] (.nm 0) (.seq (.var 8)) [] (.isi (.var 0) .list))])))
noncomputable def tf:List S:=[.set (.nm 8) (.call 25 [(.var 9)]),.ite eR [.ret (.cB false)] [],.ite (.not (.call 27 [(.var 8)])) [.ret (.cB false)] [],.mth .append (.ix (.var 8) (.cI 0)) [(.cI 1)],.mth .append (.var 8) [(.lst [])]]
theorem Cp {N m w:Nat} {F:Nat→Nat→Int × Int} {x:T} {o:Own} (ho:o=[]∨o=[(8,1)]) (hF:∀ i j,Nu (F i j).1 (F i j).2) (hm:1≤m∧m≤7) (hw:1≤w∧w≤7) (a0 a1 a2 a3 a4 a5 a6 a7 r8 r11:Option T):∃ s8,cn aY dZ ⟨bG,[5,8],0⟩ N (.nm 11) tf x [a0,a1,a2,a3,a4,a5,a6,a7,r8,some (tq m w F),some (gm m w (mkb F)),r11] o=.ok (.nx [a0,a1,a2,a3,a4,a5,a6,a7,s8,some (tq m w F),some (gm m w (mkb F)),some x] [(8,1)]):=by
 have mk:=B3 hF hm hw
 have wa:=zX (m:=m) (M:=mkb F) hw.2
 rw [← rf] at mk
 rw [← nk] at wa
 have lv:lvT (gm m w (mkb F))=2:=qg _ _ _
 have t0:cn aY dZ ⟨bG,[5,8],0⟩ N (.nm 11) tf x [a0,a1,a2,a3,a4,a5,a6,a7,r8,some (tq m w F),some (gm m w (mkb F)),r11] o=ySs aY dZ ⟨bG,[5,8],0⟩ N tf [a0,a1,a2,a3,a4,a5,a6,a7,r8,some (tq m w F),some (gm m w (mkb F)),some x] o:=by
   rcases ho with rfl | rfl <;> (rw [cG]; rfl)
 have s1:yS aY dZ ⟨bG,[5,8],0⟩ N (.set (.nm 8) (.call 25 [(.var 9)])) [a0,a1,a2,a3,a4,a5,a6,a7,r8,some (tq m w F),some (gm m w (mkb F)),some x] o=.ok (.nx [a0,a1,a2,a3,a4,a5,a6,a7,some (gm m w (mkb F)),some (tq m w F),some (gm m w (mkb F)),some x] [(8,2)]):=by
   rw [ba _ _ _ _ _ _ _ _ (by simp only [cy,cO,gK,Bool.and_false,Nat.lt_irrefl,decide_false,and_false,kh]),jZ mk (aE rfl),Ou.aa]
   rcases ho with rfl | rfl <;> simp only [e8,aA,aq,bf,aw,cm,frg,fO,gts,bQ,tgN,List.getElem?_cons_zero,List.getElem?_cons_succ,List.set_cons_zero,List.set_cons_succ,List.contains_cons,List.contains_nil,Option.isSome_some,Bool.and_true,Bool.and_false,Bool.or_false,Bool.or_true,Bool.false_eq_true,if_true,if_false,beq_self_eq_true,Nat.reduceBEq,Nat.reduceLT,Nat.min_def,decide_true,and_true,and_false,reduceCtorEq,Nat.reduceEqDiff,Nat.reduceLeDiff,kh,lv]
 have ca:yE aY (.comp [none] (.nm 0) (.seq (.var 8)) [] (.isi (.var 0) .list)) [a0,a1,a2,a3,a4,a5,a6,a7,some (gm m w (mkb F)),some (tq m w F),some (gm m w (mkb F)),some x]=.ok (.lst (((List.range m).map fun i=>line w fun j=>T.int (mkb F i j)).map fun _=>.bl true)):=by
   refine bz (iX (n:=m) (G:=fun i=>line w fun j=>.int (mkb F i j)) (aE rfl)) (by rw [List.length_map,List.length_range]; exact bJ hm.2) (jq _ fun y hy=>?_)
   obtain ⟨i,_,rfl⟩:=List.mem_map.mp hy
   rfl
 have al:=nD ca
 rw [show (((List.range m).map fun i=>line w fun j=>T.int (mkb F i j)).all fun _=>true)=true by simp] at al
 have c1:yE aY eR [a0,a1,a2,a3,a4,a5,a6,a7,some (gm m w (mkb F)),some (tq m w F),some (gm m w (mkb F)),some x]=.ok (.bl false):=by
   refine ku (a:=false) (b:=false) (eM (a:=true) ?_) fun _=>ku (a:=false) (b:=false) (BA (aE rfl) (aE rfl) (ne_self ((Tk.gm _ _ _).mono (by decide)))) fun _=>eM (a:=true) al
   rw [gg,aE (i:=8) rfl]; rfl
 have g1:dn (gU bG 2 eR) [(8,2)]=[(8,2)]:=by unfold eR; simp only [aq,bf,fO,gts,spc,bQ,dI,List.contains_cons,List.contains_nil,Bool.true_and,Bool.and_true,Bool.and_false,Bool.or_false,Bool.false_or,if_true,beq_self_eq_true,Nat.reduceBEq,Nat.reduceLT,Nat.lt_irrefl,decide_false,and_true,true_and,and_false]; rfl
 have g2:dn (gU bG 2 (.not (.call 27 [(.var 8)]))) [(8,2)]=[(8,2)]:=by simp only [aq,bf,fO,gts,bQ,Bool.and_true,Bool.or_false,Bool.false_eq_true,if_true,if_false,beq_self_eq_true,Nat.reduceLT,Nat.lt_irrefl,decide_false,and_true,ni]
 have ite':∀ {e:E} {τ:aC},yE aY e τ=.ok (.bl false)→dn (gU bG 2 e) [(8,2)]=[(8,2)]→yS aY dZ ⟨bG,[5,8],0⟩ N (.ite e [.ret (.cB false)] []) τ [(8,2)]=.ok (.nx τ [(8,2)]):=fun {e τ} he hd=>by
   rw [bR,he,Ou.aa,dS,aD]
   exact congrArg (fun o=>Ou.ok (FlT.nx τ o)) hd
 obtain ⟨m',hm'⟩:∃ m',m=m' + 1:=⟨m - 1,by omega⟩
 obtain ⟨ys,ex⟩:∃ ys:List T,gm m w (mkb F)=.lst (.lst ((List.range w).map fun j=>.int (mkb F 0 j)) :: ys):=by
   refine ⟨(List.range' 1 m').map fun i=>line w fun j=>.int (mkb F i j),?_⟩
   rw [hm']
   unfold gm jL
   conv=>lhs; unfold line
   rw [show List.range (m' + 1)=0 :: List.range' 1 m' by rw [List.range_eq_range',List.range'_succ],List.map_cons]
   rfl
 have ap:zM .append ((List.range w).map fun j=>T.int (mkb F 0 j)) [.int 1]=some ((List.range w).map (fun j=>T.int (mkb F 0 j))++[.int 1]):=rg (by rw [List.length_map,List.length_range]; exact bJ hw.2)
 have s4:yS aY dZ ⟨bG,[5,8],0⟩ N (.mth .append (.ix (.var 8) (.cI 0)) [(.cI 1)]) [a0,a1,a2,a3,a4,a5,a6,a7,some (.lst (.lst ((List.range w).map fun j=>.int (mkb F 0 j)) :: ys)),some (tq m w F),some (gm m w (mkb F)),some x] [(8,2)]=.ok (.nx [a0,a1,a2,a3,a4,a5,a6,a7,some (.lst (.lst ((List.range w).map (fun j=>T.int (mkb F 0 j))++[.int 1]) :: ys)),some (tq m w F),some (gm m w (mkb F)),some x] [(8,2)]):=by
   have ix:ixN (ys.length + 1) 0=some 0:=by
     unfold ixN
     rw [if_pos (by decide),if_pos (by omega)]
     rfl
   simp only [aM,af,ae,Ft,aH,i9,aq,bf,Ou.aa,ax,cg,intOf,jS,IC,gts,bQ,wD,List.getElem?_cons_zero,List.getElem?_cons_succ,List.set_cons_zero,List.set_cons_succ,List.lookup_cons,Option.getD_some,Option.bind_some,Bool.and_true,Bool.or_false,Bool.false_eq_true,if_true,if_false,beq_self_eq_true,and_true,ap,ix,List.length_cons]
 have hy:ys.length≤6:=by
   have:=congrArg (fun d=>eF d) ex
   simp only [gm,jL,line,eF,List.length_map,List.length_range,List.length_cons] at this
   omega
 have ap2:∀ y:T,zM .append (y :: ys) [.lst []]=some (y :: ys++[.lst []]):=fun y=>rg (by rw [List.length_cons]; exact bJ (by omega))
 have s5:∀ y:T,yS aY dZ ⟨bG,[5,8],0⟩ N (.mth .append (.var 8) [(.lst [])]) [a0,a1,a2,a3,a4,a5,a6,a7,some (.lst (y :: ys)),some (tq m w F),some (gm m w (mkb F)),some x] [(8,2)]=.ok (.nx [a0,a1,a2,a3,a4,a5,a6,a7,some (.lst (y :: ys++[.lst []])),some (tq m w F),some (gm m w (mkb F)),some x] [(8,1)]):=fun y=>by
   have:=ap2 y
   simp only [dq,af,ae,nO,aH,i9,aq,bf,jB,Ou.aa,ax,cg,nZ,gts,bQ,qO,List.getElem?_cons_zero,List.getElem?_cons_succ,List.set_cons_zero,List.set_cons_succ,List.cons_append,List.lookup_cons,Option.getD_some,Bool.and_true,Bool.and_false,Bool.or_false,Bool.false_eq_true,if_true,if_false,beq_self_eq_true,Nat.reduceBEq,Nat.reduceLT,and_true,and_false,this]
 rw [← ex] at s4
 refine ⟨some (.lst (.lst ((List.range w).map (fun j=>T.int (mkb F 0 j))++[.int 1]) :: ys++[.lst []])),?_⟩
 rw [t0,tf,aT s1,aT (ite' c1 g1),aT (ite' (eM (a:=true) (jZ wa (aE rfl))) g2),aT s4,aT (s5 _),aD]
end K50
namespace K50
open PySem PySem.Spec L2 Sv
open Ev (D aZ bp ai)
theorem KJ {L:List (List Int)} {m w:Nat} (hl:L.length=m) (h:Rk w L):RT L=gm m w fun i j=>(L.getD i []).getD j 0:=by
 subst hl
 unfold RT gm jL line
 congr 1
 apply List.ext_getElem
 · simp
 · intro i h1 h2
   have hi:i < L.length:=by simpa using h1
   have hr:=h L[i] (List.getElem_mem _)
   simp only [List.getElem_map,List.getElem_range,inT]
   congr 1
   apply List.ext_getElem
   · simp [hr.1]
   · intro j g1 g2
     have hj:j < L[i].length:=by simpa using g1
     simp [List.getD_eq_getElem?_getD,hi,hj]
theorem Kn {Ψ:FnT} {τ:aC} {f:Nat} {e1 e2 e3:E} {x1 x2 x3 z:T} (h:Ψ f [x1,x2,x3]=.ok z) (h1:yE Ψ e1 τ=.ok x1) (h2:yE Ψ e2 τ=.ok x2) (h3:yE Ψ e3 τ=.ok x3):yE Ψ (.call f [e1,e2,e3]) τ=.ok z:=by
 rw [aL,ae,h1,Ou.aa,ae,h2,Ou.aa,ae,h3,Ou.aa,af,Ou.aa,Ou.aa,Ou.aa,Ou.aa,h]
theorem Kr {Ψ:FnT} {τ:aC} {f:Nat} {e1 e2 e3 e4:E} {x1 x2 x3 x4 z:T} (h:Ψ f [x1,x2,x3,x4]=.ok z) (h1:yE Ψ e1 τ=.ok x1) (h2:yE Ψ e2 τ=.ok x2) (h3:yE Ψ e3 τ=.ok x3) (h4:yE Ψ e4 τ=.ok x4):yE Ψ (.call f [e1,e2,e3,e4]) τ=.ok z:=by
 rw [aL,ae,h1,Ou.aa,ae,h2,Ou.aa,ae,h3,Ou.aa,ae,h4,Ou.aa,af,Ou.aa,Ou.aa,Ou.aa,Ou.aa,Ou.aa,h]
noncomputable def eBs:E:=.op .add (.lst [(.cI 24),(.cI 7),(.cI 7),(.cI 3)]) (.comp [none] (.nm 0) (.rng (.op .mul (.var 1) (.var 2))) [] (.cI 2))
theorem Gv {m w:Nat} {a0 a3 r4 r5 r6 r7 r8 r9 r10 r11:Option T} (hm:m≤7) (hw:w≤7):yE aY eBs [a0,some (.int (m:Nat)),some (.int (w:Nat)),a3,r4,r5,r6,r7,r8,r9,r10,r11]=.ok (inT ([24,7,7,3]++List.replicate (m * w) 2)):=by
 have mw:m * w≤49:=Nat.mul_le_mul hm hw
 have mu:z2 .mul (.int (m:Nat)) (.int (w:Nat))=.ok (.int ((m * w:Nat):Int)):=by rw [fq (ei (by omega)),Int.natCast_mul]
 have cp:yE aY (.comp [none] (.nm 0) (.rng (.op .mul (.var 1) (.var 2))) [] (.cI 2)) [a0,some (.int (m:Nat)),some (.int (w:Nat)),a3,r4,r5,r6,r7,r8,r9,r10,r11]=.ok (.lst ((List.range (m * w)).map fun _=>.int 2)):=by
   refine bz (fH (n:=m * w) (by rw [cJ,aE (i:=1) rfl,Ou.aa,aE (i:=2) rfl,Ou.aa,mu]) (by omega)) (by rw [List.length_map,List.length_range]; exact Nat.lt_of_le_of_lt mw (by decide)) (bC _ fun k _=>?_)
   simp only [aM,bo,Ou.aa,aw,dB,aj,List.set_cons_zero,List.map_cons,List.map_nil,List.nil_append,List.cons_append,Option.bind_none,if_true,aj]
 have l4:yE aY (.lst [(.cI 24),(.cI 7),(.cI 7),(.cI 3)]) [a0,some (.int (m:Nat)),some (.int (w:Nat)),a3,r4,r5,r6,r7,r8,r9,r10,r11]=.ok (.lst [.int 24,.int 7,.int 7,.int 3]):=by
   simp only [aM,dq,af,ae,zl,Ou.aa]
 rw [eBs,cJ,l4,Ou.aa,cp,Ou.aa,qL (by rw [List.length_map,List.length_range]; exact Nat.lt_of_le_of_lt (Nat.add_le_add_left mw 4) (by decide))]
 rw [inT,List.map_append,List.map_replicate,List.map_const',List.length_range]
 rfl
noncomputable def eRd:E:=.comp [none,some 4,some 2] (.nm 0) (.rng (.var 1)) [] (.sl (.var 1) (.op .add (.cI 4) (.op .mul (.var 2) (.var 0))) (.op .add (.cI 4) (.op .mul (.var 2) (.op .add (.var 0) (.cI 1)))))
theorem IW {m w:Nat} {rs:List Int} {a0 a3 r5 r6 r7 r8 r9 r10 r11:Option T} (hm:m≤7) (hw:w≤7):∃ d,Th d∧yE aY eRd [a0,some (.int (m:Nat)),some (.int (w:Nat)),a3,some (inT rs),r5,r6,r7,r8,r9,r10,r11]=.ok d:=by
 refine ⟨.lst ((List.range m).map fun i=>.lst (pd (rs.map .int) (some (4 + (w:Nat) * (i:Nat))) (some (4 + (w:Nat) * ((i:Nat) + 1))))),⟨(Tk.lst (k:=1) fun x hx=>?_).mono (by decide),fun xs z=>?_⟩,?_⟩
 · obtain ⟨i,_,rfl⟩:=List.mem_map.mp hx
   refine .lst fun y hy=>?_
   obtain ⟨j,_,rfl⟩:=List.mem_map.mp (List.mem_of_mem_drop (List.mem_of_mem_take hy))
   exact .int 0 j
 · cases z
   rw [List.length_map,List.length_range]
   omega
 · refine bz (fH (n:=m) (aE rfl) (by omega)) (by rw [List.length_map,List.length_range]; exact bJ hm) (bC _ fun i hi=>?_)
   have m1:∀ k:Int,z2 .mul (.int (w:Nat)) (.int k)=.ok (.int ((w:Nat) * k)):=fun k=>fq (ei (by omega))
   have sl:∀ lo hi:Int,zSl (inT rs) (some lo) (some hi)=.ok (.lst (pd (rs.map .int) (some lo) (some hi))):=fun _ _=>rfl
   simp only [ag,aM,cJ,pW,bo,aH,Ou.aa,ax,aw,dB,ji,aj,List.getElem?_cons_zero,List.getElem?_cons_succ,List.set_cons_zero,List.map_cons,List.map_nil,List.nil_append,List.cons_append,Option.bind_some,Option.bind_none,Option.join_some,if_true,aj,kv,m1,sl]
theorem Cv:nE=[.set (.tp [1,2]) (.call 1 [(.call 8 [(.var 0),(.cI 0)])]),.set (.nm 3) (.call 3 [(.call 8 [(.var 0),(.cI 1)]),(.var 1),(.var 2)]),.set (.nm 4) (.call 0 [(.call 8 [(.var 0),(.cI 2)]),eBs]),.set (.nm 5) (.lst [(.var 3),(.call 9 [(.var 3),(.var 4)])]),.mth .append (.var 5) [eRd],.for (.nm 6) (.seq (.var 5)) qW,.set (.nm 9) (.call 7 [(.call 8 [(.var 0),(.cI 3)]),(.var 1),(.var 2),(.ix (.lst [(.cI 0),(.cI 1),(.cI 2)]) (.ix (.var 4) (.cI 3)))]),.set (.nm 10) (.comp [none] (.nm 0) (.seq (.var 9)) [] (.comp [none] (.nm 0) (.seq (.var 0)) [] (.bi .int [(.cmp .ne (.ix (.var 0) (.cI 0)) (.cI 0))]))),.for (.nm 11) (.rng (.cI 2)) tf,.ret (.cB true)]:=rfl
theorem FX (ns:List Int) (hl:ns.length≤63):CL [inT ns]=.ok (.bl true):=by
 obtain ⟨c0,e0⟩:=pN ns 0
 obtain ⟨c1,e1⟩:=pN ns 1
 obtain ⟨c2,e2⟩:=pN ns 2
 obtain ⟨c3,e3⟩:=pN ns 3
 obtain ⟨m,w,hm,hw,es⟩:=Ez c0
 obtain ⟨L,hL,lL,eL⟩:=A9 c1 hm.2 hw.2
 have mw:m * w≤49:=Nat.mul_le_mul hm.2 hw.2
 obtain ⟨rs,dg,en⟩:=uw (Ψ:=aY) (i:=0) rfl c2 ([24,7,7,3]++List.replicate (m * w) 2) (fun b hb=>by
   rcases List.mem_append.mp hb with hb | hb
   · simp only [List.mem_cons,List.not_mem_nil,or_false] at hb
     rcases hb with rfl | rfl | rfl | rfl <;> decide
   · rw [List.eq_of_mem_replicate hb]; decide) (by rw [List.length_append,List.length_replicate]; exact Nat.lt_of_le_of_lt (Nat.add_le_add_left mw 4) (by decide))
 match rs,dg with
 | q0 :: q1 :: q2 :: q3 :: qs,dg=>
   obtain ⟨d0,d1,d2,d3,_⟩:=dg
   rw [KJ lL hL] at eL
   obtain ⟨d,hd,ed⟩:=Ab (M:=fun i j=>(L.getD i []).getD j 0) (p0:=q0) (p1:=q1) (p2:=q2) (ps:=.int q3 :: qs.map .int) hm hw d0 d1.1 d2.1
   obtain ⟨kd,hkd⟩:∃ kd:Nat,q3=(kd:Nat):=⟨q3.toNat,by omega⟩
   obtain ⟨F,hF,et⟩:=table_at c3 m w kd hm.2 hw.2 (by omega)
   rw [← uN] at e0 e1 e2 e3
   rw [← tX] at es
   rw [← rW] at eL
   rw [← qK] at ed
   rw [← rN] at et
   generalize hM:(fun i j=>(L.getD i []).getD j 0)=M at *
   have cell:∀ {τ:aC} {k:Nat} {c:Int},ax τ 0=.ok (inT ns)→aY 8 [inT ns,.int (k:Nat)]=.ok (.int c)→yE aY (.call 8 [(.var 0),(.cI ((k:Nat):Int))]) τ=.ok (.int c):=fun h hc=>call2 hc (aE h) (by rw [aM])
   have x0:∀ τ:aC,ax τ 0=.ok (inT ns)→yE aY (.call 8 [(.var 0),(.cI 0)]) τ=.ok (.int c0):=fun τ h=>cell (k:=0) h e0
   have x1:∀ τ:aC,ax τ 0=.ok (inT ns)→yE aY (.call 8 [(.var 0),(.cI 1)]) τ=.ok (.int c1):=fun τ h=>cell (k:=1) h e1
   have x2:∀ τ:aC,ax τ 0=.ok (inT ns)→yE aY (.call 8 [(.var 0),(.cI 2)]) τ=.ok (.int c2):=fun τ h=>cell (k:=2) h e2
   have x3:∀ τ:aC,ax τ 0=.ok (inT ns)→yE aY (.call 8 [(.var 0),(.cI 3)]) τ=.ok (.int c3):=fun τ h=>cell (k:=3) h e3
   obtain ⟨dr,hdr,er⟩:=IW (rs:=q0 :: q1 :: q2 :: q3 :: qs) (a0:=some (inT ns)) (a3:=some (gm m w M)) (r5:=some (.lst [gm m w M,d])) (r6:=none) (r7:=none) (r8:=none) (r9:=none) (r10:=none) (r11:=none) hm.2 hw.2
   obtain ⟨s6,s7,s8,elp⟩:=Dt (N:=aI [inT ns]) (some (inT ns)) (some (.int (m:Nat))) (some (.int (w:Nat))) (some (gm m w M)) (some (inT (q0 :: q1 :: q2 :: q3 :: qs))) (some (.lst [gm m w M,d,dr])) none none none [gm m w M,d,dr] none none none (fun x hx=>by
     simp only [List.mem_cons,List.not_mem_nil,or_false] at hx
     rcases hx with rfl | rfl | rfl
     · exact ⟨(Tk.gm _ _ _).mono (by decide),fun xs z=>by cases z; rw [List.length_map,List.length_range]; omega⟩
     · exact hd
     · exact hdr)
   obtain ⟨u8,em1⟩:=Cp (N:=aI [inT ns]) (x:=.int ((0:Nat):Int)) (Or.inl rfl) hF hm hw (some (inT ns)) (some (.int (m:Nat))) (some (.int (w:Nat))) (some (gm m w M)) (some (inT (q0 :: q1 :: q2 :: q3 :: qs))) (some (.lst [gm m w M,d,dr])) s6 s7 s8 none
   obtain ⟨v8,em2⟩:=Cp (N:=aI [inT ns]) (x:=.int ((1:Nat):Int)) (Or.inr rfl) hF hm hw (some (inT ns)) (some (.int (m:Nat))) (some (.int (w:Nat))) (some (gm m w M)) (some (inT (q0 :: q1 :: q2 :: q3 :: qs))) (some (.lst [gm m w M,d,dr])) s6 s7 u8 (some (.int ((0:Nat):Int)))
   rw [B0,Cv]
   have s1:yS aY dZ ⟨bG,[5,8],0⟩ (aI [inT ns]) (.set (.tp [1,2]) (.call 1 [(.call 8 [(.var 0),(.cI 0)])])) [some (inT ns),none,none,none,none,none,none,none,none,none,none,none] []=.ok (.nx [some (inT ns),some (.int (m:Nat)),some (.int (w:Nat)),none,none,none,none,none,none,none,none,none] []):=by
     rw [ba _ _ _ _ _ _ _ _ (by simp only [cy,cO,kH,Bool.and_false,Nat.lt_irrefl,decide_false,and_false,um]),jZ es (x0 _ rfl),Ou.aa]
     simp only [aA,aq,aw,mr,cm,List.set_cons_zero,List.set_cons_succ]
   have s2:yS aY dZ ⟨bG,[5,8],0⟩ (aI [inT ns]) (.set (.nm 3) (.call 3 [(.call 8 [(.var 0),(.cI 1)]),(.var 1),(.var 2)])) [some (inT ns),some (.int (m:Nat)),some (.int (w:Nat)),none,none,none,none,none,none,none,none,none] []=.ok (.nx [some (inT ns),some (.int (m:Nat)),some (.int (w:Nat)),some (gm m w M),none,none,none,none,none,none,none,none] []):=by
     rw [ba _ _ _ _ _ _ _ _ (by simp only [cy,cO,kH,Bool.and_false,Nat.lt_irrefl,decide_false,and_false,si]),Kn eL (x1 _ rfl) (aE rfl) (aE rfl),Ou.aa]
     simp only [e8,aA,aq,aw,cm,List.getElem?_cons_zero,List.getElem?_cons_succ,List.set_cons_zero,List.set_cons_succ,List.contains_cons,List.contains_nil,Option.isSome_some,Bool.and_true,Bool.or_false,Bool.false_eq_true,if_false,Nat.reduceBEq,Nat.min_def,and_true]
   have s3:yS aY dZ ⟨bG,[5,8],0⟩ (aI [inT ns]) (.set (.nm 4) (.call 0 [(.call 8 [(.var 0),(.cI 2)]),eBs])) [some (inT ns),some (.int (m:Nat)),some (.int (w:Nat)),some (gm m w M),none,none,none,none,none,none,none,none] []=.ok (.nx [some (inT ns),some (.int (m:Nat)),some (.int (w:Nat)),some (gm m w M),some (inT (q0 :: q1 :: q2 :: q3 :: qs)),none,none,none,none,none,none,none] []):=by
     rw [ba _ _ _ _ _ _ _ _ (by simp only [cy,cO,kH,Bool.and_false,Nat.lt_irrefl,decide_false,and_false,pA]),call2 en (x2 _ rfl) (Gv hm.2 hw.2),Ou.aa]
     simp only [e8,aA,aq,aw,cm,List.getElem?_cons_zero,List.getElem?_cons_succ,List.set_cons_zero,List.set_cons_succ,List.contains_cons,List.contains_nil,Option.isSome_some,Bool.and_true,Bool.or_false,Bool.false_eq_true,if_false,Nat.reduceBEq,Nat.min_def,and_true]
   have s4:yS aY dZ ⟨bG,[5,8],0⟩ (aI [inT ns]) (.set (.nm 5) (.lst [(.var 3),(.call 9 [(.var 3),(.var 4)])])) [some (inT ns),some (.int (m:Nat)),some (.int (w:Nat)),some (gm m w M),some (inT (q0 :: q1 :: q2 :: q3 :: qs)),none,none,none,none,none,none,none] []=.ok (.nx [some (inT ns),some (.int (m:Nat)),some (.int (w:Nat)),some (gm m w M),some (inT (q0 :: q1 :: q2 :: q3 :: qs)),some (.lst [gm m w M,d]),none,none,none,none,none,none] [(5,1)]):=by
     have le:yE aY (.lst [(.var 3),(.call 9 [(.var 3),(.var 4)])]) [some (inT ns),some (.int (m:Nat)),some (.int (w:Nat)),some (gm m w M),some (inT (q0 :: q1 :: q2 :: q3 :: qs)),none,none,none,none,none,none,none]=.ok (.lst [gm m w M,d]):=by
       rw [dq,ae,aE (i:=3) rfl,Ou.aa,ae,call2 ed (aE rfl) (aE rfl),Ou.aa,af,Ou.aa,Ou.aa,Ou.aa,jK]
     have lv:min 1 (lvT (.lst [gm m w M,d]))=1:=by
       have:1≤lvT (.lst [gm m w M,d]):=by
         show 1≤(if _ then 2 else 1)
         split <;> decide
       omega
     rw [ba _ _ _ _ _ _ _ _ (by simp only [ip]),le,Ou.aa]
     show pw _ (cm ⟨bG,[5,8],0⟩ [] (.nm 5) (.lst [(.var 3),(.call 9 [(.var 3),(.var 4)])]) _ _)=_
     unfold cm
     rw [iN,lv]
     rfl
   have s5:yS aY dZ ⟨bG,[5,8],0⟩ (aI [inT ns]) (.mth .append (.var 5) [eRd]) [some (inT ns),some (.int (m:Nat)),some (.int (w:Nat)),some (gm m w M),some (inT (q0 :: q1 :: q2 :: q3 :: qs)),some (.lst [gm m w M,d]),none,none,none,none,none,none] [(5,1)]=.ok (.nx [some (inT ns),some (.int (m:Nat)),some (.int (w:Nat)),some (gm m w M),some (inT (q0 :: q1 :: q2 :: q3 :: qs)),some (.lst [gm m w M,d,dr]),none,none,none,none,none,none] [(5,1)]):=by
     have ap:zM .append [gm m w M,d] [dr]=some [gm m w M,d,dr]:=rfl
     have gd:dn (gUL bG 0 [eRd]) [(5,1)]=[(5,1)]:=by unfold eRd; simp only [aq,bf,nZ,gts,bQ,dI,List.contains_cons,List.contains_nil,Bool.false_and,Bool.and_false,Bool.or_false,if_false,Nat.reduceBEq,Nat.reduceLT,decide_false,and_false,false_and,Nat.reduceEqDiff]; rfl
     rw [nO,show gH (ax [some (inT ns),some (.int (m:Nat)),some (.int (w:Nat)),some (gm m w M),some (inT (q0 :: q1 :: q2 :: q3 :: qs)),some (.lst [gm m w M,d]),none,none,none,none,none,none] 5)=some [gm m w M,d] from rfl,aH]
     show (if 0 < cg (dn (gUL bG 0 [eRd]) [(5,1)]) 5 then (yEs aY [eRd] _).bind fun ds=>qO .append _ (dn (gUL bG 0 [eRd]) [(5,1)]) 5 [gm m w M,d] ds else .bad)=_
     rw [gd,if_pos (by decide),ae,er,Ou.aa,af,Ou.aa,Ou.aa,qO,ap,aH]
     rfl
   have s6':yS aY dZ ⟨bG,[5,8],0⟩ (aI [inT ns]) (.for (.nm 6) (.seq (.var 5)) qW) [some (inT ns),some (.int (m:Nat)),some (.int (w:Nat)),some (gm m w M),some (inT (q0 :: q1 :: q2 :: q3 :: qs)),some (.lst [gm m w M,d,dr]),none,none,none,none,none,none] [(5,1)]=.ok (.nx [some (inT ns),some (.int (m:Nat)),some (.int (w:Nat)),some (gm m w M),some (inT (q0 :: q1 :: q2 :: q3 :: qs)),some (.lst [gm m w M,d,dr]),s6,s7,s8,none,none,none] []):=by
     have g:dn (gUI bG 0 (.seq (.var 5))) [(5,1)]=[]:=by simp only [aq,bf,nX,gts,dI,Bool.and_true,Bool.and_false,if_true,if_false,beq_self_eq_true,Nat.reduceLT,decide_true,and_true,and_false,reduceCtorEq,Nat.reduceEqDiff]
     rw [gW,show yIt aY (.seq (.var 5)) [some (inT ns),some (.int (m:Nat)),some (.int (w:Nat)),some (gm m w M),some (inT (q0 :: q1 :: q2 :: q3 :: qs)),some (.lst [gm m w M,d,dr]),none,none,none,none,none,none]=.ok [gm m w M,d,dr] by rw [cb,ag]; rfl,Ou.aa]
     show Ou.noX (cT _ _ _ (dn (gUI bG 0 (.seq (.var 5))) [(5,1)]))=_
     rw [g,elp,Ou.de]
   have kx:yE aY (.ix (.lst [(.cI 0),(.cI 1),(.cI 2)]) (.ix (.var 4) (.cI 3))) [some (inT ns),some (.int (m:Nat)),some (.int (w:Nat)),some (gm m w M),some (inT (q0 :: q1 :: q2 :: q3 :: qs)),some (.lst [gm m w M,d,dr]),s6,s7,s8,none,none,none]=.ok (.int (kd:Nat)):=by
     have i3:zI (inT (q0 :: q1 :: q2 :: q3 :: qs)) (.int 3)=.ok (.int q3):=dF (k:=3) rfl
     have key:zI (.lst [.int 0,.int 1,.int 2]) (.int q3)=.ok (.int (kd:Nat)):=by
       rw [hkd]
       match kd,(show kd < 3 by omega) with
       | 0,_=>exact gX _ _
       | 1,_=>exact oG _ _ _
       | 2,_=>exact oF _ _ _ _
     simp only [ag,aM,dq,bX,af,ae,yX,Ou.aa,ax,List.getElem?_cons_zero,List.getElem?_cons_succ,i3,key]
   have s7':yS aY dZ ⟨bG,[5,8],0⟩ (aI [inT ns]) (.set (.nm 9) (.call 7 [(.call 8 [(.var 0),(.cI 3)]),(.var 1),(.var 2),(.ix (.lst [(.cI 0),(.cI 1),(.cI 2)]) (.ix (.var 4) (.cI 3)))])) [some (inT ns),some (.int (m:Nat)),some (.int (w:Nat)),some (gm m w M),some (inT (q0 :: q1 :: q2 :: q3 :: qs)),some (.lst [gm m w M,d,dr]),s6,s7,s8,none,none,none] []=.ok (.nx [some (inT ns),some (.int (m:Nat)),some (.int (w:Nat)),some (gm m w M),some (inT (q0 :: q1 :: q2 :: q3 :: qs)),some (.lst [gm m w M,d,dr]),s6,s7,s8,some (tq m w F),none,none] []):=by
     rw [ba _ _ _ _ _ _ _ _ (by simp only [cy,cO,kH,Bool.and_false,Nat.lt_irrefl,decide_false,and_false,rH]),Kr et (x3 _ rfl) (aE rfl) (aE rfl) kx,Ou.aa]
     simp only [e8,aA,aq,aw,cm,List.getElem?_cons_zero,List.getElem?_cons_succ,List.set_cons_zero,List.set_cons_succ,List.contains_cons,List.contains_nil,Option.isSome_some,Bool.and_true,Bool.or_false,Bool.false_eq_true,if_false,Nat.reduceBEq,Nat.min_def,and_true]
   have s8':yS aY dZ ⟨bG,[5,8],0⟩ (aI [inT ns]) (.set (.nm 10) (.comp [none] (.nm 0) (.seq (.var 9)) [] (.comp [none] (.nm 0) (.seq (.var 0)) [] (.bi .int [(.cmp .ne (.ix (.var 0) (.cI 0)) (.cI 0))])))) [some (inT ns),some (.int (m:Nat)),some (.int (w:Nat)),some (gm m w M),some (inT (q0 :: q1 :: q2 :: q3 :: qs)),some (.lst [gm m w M,d,dr]),s6,s7,s8,some (tq m w F),none,none] []=.ok (.nx [some (inT ns),some (.int (m:Nat)),some (.int (w:Nat)),some (gm m w M),some (inT (q0 :: q1 :: q2 :: q3 :: qs)),some (.lst [gm m w M,d,dr]),s6,s7,s8,some (tq m w F),some (gm m w (mkb F)),none] []):=by
     rw [ba _ _ _ _ _ _ _ _ (by simp only [kM]),Lj hm.2 hw.2 rfl,Ou.aa]
     simp only [mU,Ce,aA,aq,aw,cm,List.getElem?_cons_zero,List.getElem?_cons_succ,List.set_cons_zero,List.set_cons_succ,List.contains_cons,List.contains_nil,Option.isSome_some,Bool.and_true,Bool.or_false,Bool.false_eq_true,if_true,if_false,Nat.reduceBEq,Nat.min_def,and_true,reduceCtorEq]
   have s9':yS aY dZ ⟨bG,[5,8],0⟩ (aI [inT ns]) (.for (.nm 11) (.rng (.cI 2)) tf) [some (inT ns),some (.int (m:Nat)),some (.int (w:Nat)),some (gm m w M),some (inT (q0 :: q1 :: q2 :: q3 :: qs)),some (.lst [gm m w M,d,dr]),s6,s7,s8,some (tq m w F),some (gm m w (mkb F)),none] []=.ok (.nx [some (inT ns),some (.int (m:Nat)),some (.int (w:Nat)),some (gm m w M),some (inT (q0 :: q1 :: q2 :: q3 :: qs)),some (.lst [gm m w M,d,dr]),s6,s7,v8,some (tq m w F),some (gm m w (mkb F)),some (.int ((1:Nat):Int))] [(8,1)]):=by
     rw [gW,fH (n:=2) (by rw [aM]; rfl) (by decide),Ou.aa,aq,show ((List.range 2).map fun k=>T.int (k:Nat))=[.int ((0:Nat):Int),.int ((1:Nat):Int)] from rfl,bM,em1,Ou.aa,cR,bM,em2,Ou.aa,cR,cL,Ou.de]
   rw [aT s1,aT s2,aT s3,aT s4,aT s5,aT s6',aT s7',aT s8',aT s9']
   exact sD (by rw [g8])
end K50
namespace K50
open PySem PySem.Spec PyProof.Rows L2 Sv
noncomputable def top (i:Nat):Stmt:=PySem.Challenge.pw_signsmooth_k50_staircases_known.main.body.getD i (.Pass ⟨0,0,0,0⟩)
noncomputable abbrev ej:Stmt:=top 24
theorem tS:aQ ["_law_cell_here","_law_bases","_law_row","_law_base","_law_k","_law_mixed"] ["_law_cell_here","_law_bases"] (ab ej):=⟨rfl,rfl,rfl,by decide +kernel,rfl,by decide +kernel,by decide +kernel⟩
theorem uM:dJ { sc:=ab ej,N:=["_law_cell_here","_law_bases","_law_row","_law_base","_law_k","_law_mixed"],F:=lS0,cap:=[],cst:=[("MOST",7)] } 60 (ak ej)=some ib:=by with_unfolding_all rfl
noncomputable abbrev ik:Stmt:=top 29
theorem Af:aQ ["_law_cell_here","_law_parts"] ["_law_cell_here"] (ab ik):=⟨rfl,rfl,rfl,by decide +kernel,rfl,by decide +kernel,by decide +kernel⟩
theorem AS:dJ { sc:=ab ik,N:=["_law_cell_here","_law_parts"],F:=lS1,cap:=[],cst:=[("MOST",7)] } 60 (ak ik)=some kS:=by with_unfolding_all rfl
noncomputable abbrev d8:Stmt:=top 31
theorem uE:aQ ["_law_clear","_law_found","_law_first","_law_some","_law_one","_law_longer","_law_row"] ["_law_clear"] (ab d8):=⟨rfl,rfl,rfl,by decide +kernel,rfl,by decide +kernel,by decide +kernel⟩
theorem uc:dJ { sc:=ab d8,N:=["_law_clear","_law_found","_law_first","_law_some","_law_one","_law_longer","_law_row"],F:=lS2,cap:=[],cst:=[("MOST",7)] } 60 (ak d8)=some eJ:=by with_unfolding_all rfl
noncomputable abbrev gk:Stmt:=top 32
theorem yj:aQ ["_law_cell_here","_law_many","_law_wide","_law_marks","_law_clear","_law_part","_law_some","_law_row"] ["_law_cell_here","_law_many","_law_wide"] (ab gk):=⟨rfl,rfl,rfl,by decide +kernel,rfl,by decide +kernel,by decide +kernel⟩
theorem yz:dJ { sc:=ab gk,N:=["_law_cell_here","_law_many","_law_wide","_law_marks","_law_clear","_law_part","_law_some","_law_row"],F:=lS3,cap:=[],cst:=[("MOST",7)] } 60 (ak gk)=some gb:=by with_unfolding_all rfl
noncomputable abbrev eg:Stmt:=top 25
theorem tG:aQ ["_law_one","_law_other","_law_rest"] ["_law_one","_law_other"] (ab eg):=⟨rfl,rfl,rfl,by decide +kernel,rfl,by decide +kernel,by decide +kernel⟩
theorem tm:dJ { sc:=ab eg,N:=["_law_one","_law_other","_law_rest"],F:=lS4,cap:=[],cst:=[("MOST",7)] } 60 (ak eg)=some hZ:=by with_unfolding_all rfl
noncomputable abbrev iy:Stmt:=top 26
theorem AG:aQ ["_law_top","_law_bottom","_law_common"] ["_law_top","_law_bottom"] (ab iy):=⟨rfl,rfl,rfl,by decide +kernel,rfl,by decide +kernel,by decide +kernel⟩
theorem AA:dJ { sc:=ab iy,N:=["_law_top","_law_bottom","_law_common"],F:=lS5,cap:=[],cst:=[("MOST",7)] } 60 (ak iy)=some kG:=by with_unfolding_all rfl
noncomputable abbrev fm:Stmt:=top 27
theorem wt:aQ ["_law_kind","_law_part","_law_top"] ["_law_kind","_law_part"] (ab fm):=⟨rfl,rfl,rfl,by decide +kernel,rfl,by decide +kernel,by decide +kernel⟩
theorem vN:dJ { sc:=ab fm,N:=["_law_kind","_law_part","_law_top"],F:=lS6,cap:=[],cst:=[("MOST",7)] } 60 (ak fm)=some iT:=by with_unfolding_all rfl
noncomputable abbrev fU:Stmt:=top 28
theorem yk:aQ ["_law_cell_here","_law_many","_law_wide","_law_kind","_law_base","_law_parts"] ["_law_cell_here","_law_many","_law_wide","_law_kind"] (ab fU):=⟨rfl,rfl,rfl,by decide +kernel,rfl,by decide +kernel,by decide +kernel⟩
theorem yC:dJ { sc:=ab fU,N:=["_law_cell_here","_law_many","_law_wide","_law_kind","_law_base","_law_parts"],F:=lS7,cap:=[],cst:=[("MOST",7)] } 60 (ak fU)=some jV:=by with_unfolding_all rfl
noncomputable abbrev iF:Stmt:=top 23
theorem Aq:aQ ["_law_script","_law_k"] ["_law_script","_law_k"] (ab iF):=⟨rfl,rfl,rfl,by decide +kernel,rfl,by decide +kernel,by decide +kernel⟩
theorem AB:dJ { sc:=ab iF,N:=["_law_script","_law_k"],F:=lS8,cap:=[],cst:=[("MOST",7)] } 60 (ak iF)=some kN:=by with_unfolding_all rfl
noncomputable abbrev fh:Stmt:=top 34
theorem wu:aQ ["_law_marks","_law_parts","_law_thing","_law_i","_law_j"] ["_law_marks","_law_parts"] (ab fh):=⟨rfl,rfl,rfl,by decide +kernel,rfl,by decide +kernel,by decide +kernel⟩
theorem vO:dJ { sc:=ab fh,N:=["_law_marks","_law_parts","_law_thing","_law_i","_law_j"],F:=lS9,cap:=[],cst:=[("MOST",7)] } 60 (ak fh)=some fF:=by with_unfolding_all rfl
noncomputable abbrev fu:Stmt:=top 36
theorem vL:aQ ["_law_thing"] ["_law_thing"] (ab fu):=⟨rfl,rfl,rfl,by decide +kernel,rfl,by decide +kernel,by decide +kernel⟩
theorem uY:dJ { sc:=ab fu,N:=["_law_thing"],F:=JZ,cap:=[],cst:=[("MOST",7)] } 60 (ak fu)=some fy:=by with_unfolding_all rfl
noncomputable abbrev ck:Stmt:=top 10
theorem oz:aQ ["thing"] ["thing"] (ab ck):=⟨rfl,rfl,rfl,by decide +kernel,rfl,by decide +kernel,by decide +kernel⟩
theorem nF:dJ { sc:=ab ck,N:=["thing"],F:=HJ,cap:=[],cst:=[("MOST",7)] } 60 (ak ck)=some eu:=by with_unfolding_all rfl
noncomputable abbrev d9:Stmt:=top 14
theorem tU:aQ ["table","j"] ["table","j"] (ab d9):=⟨rfl,rfl,rfl,by decide +kernel,rfl,by decide +kernel,by decide +kernel⟩
theorem tF:dJ { sc:=ab d9,N:=["table","j"],F:=HL,cap:=[],cst:=[("MOST",7)] } 60 (ak d9)=some eG:=by with_unfolding_all rfl
noncomputable abbrev cE:Stmt:=top 21
theorem oX:aQ ["marks","i","j"] ["marks","i","j"] (ab cE):=⟨rfl,rfl,rfl,by decide +kernel,rfl,by decide +kernel,by decide +kernel⟩
theorem o9:dJ { sc:=ab cE,N:=["marks","i","j"],F:=Hu,cap:=[],cst:=[("MOST",7)] } 60 (ak cE)=some cj:=by with_unfolding_all rfl
noncomputable abbrev bU:Stmt:=top 20
theorem mI:aQ ["marks","i"] ["marks","i"] (ab bU):=⟨rfl,rfl,rfl,by decide +kernel,rfl,by decide +kernel,by decide +kernel⟩
theorem mH:dJ { sc:=ab bU,N:=["marks","i"],F:=GZ,cap:=[],cst:=[("MOST",7)] } 60 (ak bU)=some cf:=by with_unfolding_all rfl
noncomputable abbrev fw:Stmt:=top 4
theorem xc:aQ ["thing"] ["thing"] (ab fw):=⟨rfl,rfl,rfl,by decide +kernel,rfl,by decide +kernel,by decide +kernel⟩
theorem wN:dJ { sc:=ab fw,N:=["thing"],F:=Gu,cap:=[],cst:=[("MOST",7)] } 60 (ak fw)=some iO:=by with_unfolding_all rfl
noncomputable abbrev dG:Stmt:=top 5
theorem rG:aQ ["thing","least","most"] ["thing","least","most"] (ab dG):=⟨rfl,rfl,rfl,by decide +kernel,rfl,by decide +kernel,by decide +kernel⟩
theorem rQ:dJ { sc:=ab dG,N:=["thing","least","most"],F:=HF,cap:=[],cst:=[("MOST",7)] } 60 (ak dG)=some bu:=by with_unfolding_all rfl
noncomputable abbrev bO:Stmt:=top 19
theorem lR:aQ ["thing"] ["thing"] (ab bO):=⟨rfl,rfl,rfl,by decide +kernel,rfl,by decide +kernel,by decide +kernel⟩
theorem lH:dJ { sc:=ab bO,N:=["thing"],F:=Gi,cap:=[],cst:=[("MOST",7)] } 60 (ak bO)=some bW:=by with_unfolding_all rfl
noncomputable abbrev cF:Stmt:=top 18
theorem pb:aQ ["thing"] ["thing"] (ab cF):=⟨rfl,rfl,rfl,by decide +kernel,rfl,by decide +kernel,by decide +kernel⟩
theorem pg:dJ { sc:=ab cF,N:=["thing"],F:=HZ,cap:=[],cst:=[("MOST",7)] } 60 (ak cF)=some cM:=by with_unfolding_all rfl
noncomputable abbrev bT:Stmt:=top 7
theorem mV:aQ ["one","other","greater","lesser","rest"] ["one","other"] (ab bT):=⟨rfl,rfl,rfl,by decide +kernel,rfl,by decide +kernel,by decide +kernel⟩
theorem nc:dJ { sc:=ab bT,N:=["one","other","greater","lesser","rest"],F:=IZ,cap:=[],cst:=[("MOST",7)] } 60 (ak bT)=some dX:=by with_unfolding_all rfl
noncomputable abbrev cV:Stmt:=top 6
theorem pZ:aQ ["thing"] ["thing"] (ab cV):=⟨rfl,rfl,rfl,by decide +kernel,rfl,by decide +kernel,by decide +kernel⟩
theorem qc:dJ { sc:=ab cV,N:=["thing"],F:=IG,cap:=[],cst:=[("MOST",7)] } 60 (ak cV)=some fP:=by with_unfolding_all rfl
noncomputable abbrev iu:Stmt:=top 11
theorem zU:aQ ["thing"] ["thing"] (ab iu):=⟨rfl,rfl,rfl,by decide +kernel,rfl,by decide +kernel,by decide +kernel⟩
theorem AY:dJ { sc:=ab iu,N:=["thing"],F:=GW,cap:=[],cst:=[("MOST",7)] } 60 (ak iu)=some kP:=by with_unfolding_all rfl
noncomputable abbrev fg:Stmt:=top 12
theorem wy:aQ ["thing"] ["thing"] (ab fg):=⟨rfl,rfl,rfl,by decide +kernel,rfl,by decide +kernel,by decide +kernel⟩
theorem u9:dJ { sc:=ab fg,N:=["thing"],F:=J1,cap:=[],cst:=[("MOST",7)] } 60 (ak fg)=some iP:=by with_unfolding_all rfl
noncomputable abbrev dD:Stmt:=top 13
theorem sg:aQ ["thing"] ["thing"] (ab dD):=⟨rfl,rfl,rfl,by decide +kernel,rfl,by decide +kernel,by decide +kernel⟩
theorem rj:dJ { sc:=ab dD,N:=["thing"],F:=GU,cap:=[],cst:=[("MOST",7)] } 60 (ak dD)=some dN:=by with_unfolding_all rfl
noncomputable abbrev fo:Stmt:=top 17
theorem u4:aQ ["row"] ["row"] (ab fo):=⟨rfl,rfl,rfl,by decide +kernel,rfl,by decide +kernel,by decide +kernel⟩
theorem v5:dJ { sc:=ab fo,N:=["row"],F:=Jm,cap:=[],cst:=[("MOST",7)] } 60 (ak fo)=some fB:=by with_unfolding_all rfl
noncomputable abbrev fj:Stmt:=top 16
theorem vo:aQ ["table"] ["table"] (ab fj):=⟨rfl,rfl,rfl,by decide +kernel,rfl,by decide +kernel,by decide +kernel⟩
theorem vy:dJ { sc:=ab fj,N:=["table"],F:=JK,cap:=[],cst:=[("MOST",7)] } 60 (ak fj)=some fA:=by with_unfolding_all rfl
noncomputable abbrev gc:Stmt:=top 30
theorem xx:aQ ["_law_thing"] ["_law_thing"] (ab gc):=⟨rfl,rfl,rfl,by decide +kernel,rfl,by decide +kernel,by decide +kernel⟩
theorem yH:dJ { sc:=ab gc,N:=["_law_thing"],F:=Gh,cap:=[],cst:=[("MOST",7)] } 60 (ak gc)=some jn:=by with_unfolding_all rfl
noncomputable abbrev cW:Stmt:=top 37
theorem q9:aQ ["_law_found","_law_row"] ["_law_found"] (ab cW):=⟨rfl,rfl,rfl,by decide +kernel,rfl,by decide +kernel,by decide +kernel⟩
theorem p7:dJ { sc:=ab cW,N:=["_law_found","_law_row"],F:=Il,cap:=[],cst:=[("MOST",7)] } 60 (ak cW)=some dk:=by with_unfolding_all rfl
noncomputable abbrev cX:Stmt:=top 33
theorem pY:aQ ["_law_marks","_law_i","_law_j"] ["_law_marks"] (ab cX):=⟨rfl,rfl,rfl,by decide +kernel,rfl,by decide +kernel,by decide +kernel⟩
theorem qJ:dJ { sc:=ab cX,N:=["_law_marks","_law_i","_law_j"],F:=Ie,cap:=[],cst:=[("MOST",7)] } 60 (ak cX)=some dj:=by with_unfolding_all rfl
noncomputable abbrev jW:Stmt:=top 35
theorem Bd:aQ ["_law_thing","_law_row"] ["_law_thing"] (ab jW):=⟨rfl,rfl,rfl,by decide +kernel,rfl,by decide +kernel,by decide +kernel⟩
theorem Bl:dJ { sc:=ab jW,N:=["_law_thing","_law_row"],F:=Jn,cap:=[],cst:=[("MOST",7)] } 60 (ak jW)=some i6:=by with_unfolding_all rfl
noncomputable abbrev lB:Stmt:=top 38
theorem Iw:aQ ["_law_script","_law_many","_law_wide","_law_marks","_law_parts","_law_some","_law_thing","_law_handed","_law_found","_law_table_here","_law_due_here","_law_turn"] ["_law_script"] (ab lB):=⟨rfl,rfl,rfl,by decide +kernel,rfl,by decide +kernel,by decide +kernel⟩
theorem JS:dJ { sc:=ab lB,N:=["_law_script","_law_many","_law_wide","_law_marks","_law_parts","_law_some","_law_thing","_law_handed","_law_found","_law_table_here","_law_due_here","_law_turn"],F:=Kg,cap:=[],cst:=[("MOST",7)] } 60 (ak lB)=some nE:=by with_unfolding_all rfl
end K50
namespace K50
open PySem PySem.Spec PyProof.Rows L2 Sv
set_option maxHeartbeats 0 in
theorem all_mk {l:PySem.W.OpenLaw} {w:World} {K:PySem.W.Frag} {h:Heap} {mg:Str→Option Value} {fa:Addr} (X:K.In h) (G:h.Ns mainGlobals mg) (hfa:mg "law" = some (.ref fa))
   {f0:Addr} {od0 an0:Option Addr} {sl0:Array (Option Value)} {oc0 kV0 dc0 pm0 cd0 ct0:Value}
   {f1:Addr} {od1 an1:Option Addr} {sl1:Array (Option Value)} {oc1 kV1 dc1 pm1 cd1 ct1:Value}
   {f2:Addr} {od2 an2:Option Addr} {sl2:Array (Option Value)} {oc2 kV2 dc2 pm2 cd2 ct2:Value}
   {f3:Addr} {od3 an3:Option Addr} {sl3:Array (Option Value)} {oc3 kV3 dc3 pm3 cd3 ct3:Value}
   {f4:Addr} {od4 an4:Option Addr} {sl4:Array (Option Value)} {oc4 kV4 dc4 pm4 cd4 ct4:Value}
   {f5:Addr} {od5 an5:Option Addr} {sl5:Array (Option Value)} {oc5 kV5 dc5 pm5 cd5 ct5:Value}
   {f6:Addr} {od6 an6:Option Addr} {sl6:Array (Option Value)} {oc6 kV6 dc6 pm6 cd6 ct6:Value}
   {f7:Addr} {od7 an7:Option Addr} {sl7:Array (Option Value)} {oc7 kV7 dc7 pm7 cd7 ct7:Value}
   {f8:Addr} {od8 an8:Option Addr} {sl8:Array (Option Value)} {oc8 kV8 dc8 pm8 cd8 ct8:Value}
   {f9:Addr} {od9 an9:Option Addr} {sl9:Array (Option Value)} {oc9 kV9 dc9 pm9 cd9 ct9:Value}
   {f10:Addr} {od10 an10:Option Addr} {sl10:Array (Option Value)} {oc10 kV10 dc10 pm10 cd10 ct10:Value}
   {f11:Addr} {od11 an11:Option Addr} {sl11:Array (Option Value)} {oc11 kV11 dc11 pm11 cd11 ct11:Value}
   {f12:Addr} {od12 an12:Option Addr} {sl12:Array (Option Value)} {oc12 kV12 dc12 pm12 cd12 ct12:Value}
   {f13:Addr} {od13 an13:Option Addr} {sl13:Array (Option Value)} {oc13 kV13 dc13 pm13 cd13 ct13:Value}
   {f14:Addr} {od14 an14:Option Addr} {sl14:Array (Option Value)} {oc14 kV14 dc14 pm14 cd14 ct14:Value}
   {f15:Addr} {od15 an15:Option Addr} {sl15:Array (Option Value)} {oc15 kV15 dc15 pm15 cd15 ct15:Value}
   {f16:Addr} {od16 an16:Option Addr} {sl16:Array (Option Value)} {oc16 kV16 dc16 pm16 cd16 ct16:Value}
   {f17:Addr} {od17 an17:Option Addr} {sl17:Array (Option Value)} {oc17 kV17 dc17 pm17 cd17 ct17:Value}
   {f18:Addr} {od18 an18:Option Addr} {sl18:Array (Option Value)} {oc18 kV18 dc18 pm18 cd18 ct18:Value}
   {f19:Addr} {od19 an19:Option Addr} {sl19:Array (Option Value)} {oc19 kV19 dc19 pm19 cd19 ct19:Value}
   {f20:Addr} {od20 an20:Option Addr} {sl20:Array (Option Value)} {oc20 kV20 dc20 pm20 cd20 ct20:Value}
   {f21:Addr} {od21 an21:Option Addr} {sl21:Array (Option Value)} {oc21 kV21 dc21 pm21 cd21 ct21:Value}
   {f22:Addr} {od22 an22:Option Addr} {sl22:Array (Option Value)} {oc22 kV22 dc22 pm22 cd22 ct22:Value}
   {f23:Addr} {od23 an23:Option Addr} {sl23:Array (Option Value)} {oc23 kV23 dc23 pm23 cd23 ct23:Value}
   {f24:Addr} {od24 an24:Option Addr} {sl24:Array (Option Value)} {oc24 kV24 dc24 pm24 cd24 ct24:Value}
   {f25:Addr} {od25 an25:Option Addr} {sl25:Array (Option Value)} {oc25 kV25 dc25 pm25 cd25 ct25:Value}
   {f26:Addr} {od26 an26:Option Addr} {sl26:Array (Option Value)} {oc26 kV26 dc26 pm26 cd26 ct26:Value}
   {f27:Addr} {od27 an27:Option Addr} {sl27:Array (Option Value)} {oc27 kV27 dc27 pm27 cd27 ct27:Value}
   {f28:Addr} {od28 an28:Option Addr} {sl28:Array (Option Value)} {oc28 kV28 dc28 pm28 cd28 ct28:Value}
   {f29:Addr} {od29 an29:Option Addr} {sl29:Array (Option Value)} {oc29 kV29 dc29 pm29 cd29 ct29:Value}
   {f30:Addr} {od30 an30:Option Addr} {sl30:Array (Option Value)} {oc30 kV30 dc30 pm30 cd30 ct30:Value}
   {t0:Tok}
   (a0:PySem.W.nsIn K mainGlobals "_law_numbers" = some (some (.ref f0))) (l0:K.lookup f0=some ⟨oc0,od0,.func (PySem.W.fnOf "_law_numbers" "_law_numbers" (aS ej) (ak ej) (ab ej) .none kV0 dc0 pm0 an0 cd0 ct0),sl0⟩) (c0:PySem.W.codeIn K cd0 "_law_numbers" = true) (k0:PySem.W.keepIn K (.ref f0)=true)
   (a1:PySem.W.nsIn K mainGlobals "_law_size" = some (some (.ref f1))) (l1:K.lookup f1=some ⟨oc1,od1,.func (PySem.W.fnOf "_law_size" "_law_size" (aS ik) (ak ik) (ab ik) .none kV1 dc1 pm1 an1 cd1 ct1),sl1⟩) (c1:PySem.W.codeIn K cd1 "_law_size" = true) (k1:PySem.W.keepIn K (.ref f1)=true)
   (a2:PySem.W.nsIn K mainGlobals "_law_options" = some (some (.ref f2))) (l2:K.lookup f2=some ⟨oc2,od2,.func (PySem.W.fnOf "_law_options" "_law_options" (aS d8) (ak d8) (ab d8) .none kV2 dc2 pm2 an2 cd2 ct2),sl2⟩) (c2:PySem.W.codeIn K cd2 "_law_options" = true) (k2:PySem.W.keepIn K (.ref f2)=true)
   (a3:PySem.W.nsIn K mainGlobals "_law_stair" = some (some (.ref f3))) (l3:K.lookup f3=some ⟨oc3,od3,.func (PySem.W.fnOf "_law_stair" "_law_stair" (aS gk) (ak gk) (ab gk) .none kV3 dc3 pm3 an3 cd3 ct3),sl3⟩) (c3:PySem.W.codeIn K cd3 "_law_stair" = true) (k3:PySem.W.keepIn K (.ref f3)=true)
   (a4:PySem.W.nsIn K mainGlobals "_law_divisor" = some (some (.ref f4))) (l4:K.lookup f4=some ⟨oc4,od4,.func (PySem.W.fnOf "_law_divisor" "_law_divisor" (aS eg) (ak eg) (ab eg) .none kV4 dc4 pm4 an4 cd4 ct4),sl4⟩) (c4:PySem.W.codeIn K cd4 "_law_divisor" = true) (k4:PySem.W.keepIn K (.ref f4)=true)
   (a5:PySem.W.nsIn K mainGlobals "_law_made" = some (some (.ref f5))) (l5:K.lookup f5=some ⟨oc5,od5,.func (PySem.W.fnOf "_law_made" "_law_made" (aS iy) (ak iy) (ab iy) .none kV5 dc5 pm5 an5 cd5 ct5),sl5⟩) (c5:PySem.W.codeIn K cd5 "_law_made" = true) (k5:PySem.W.keepIn K (.ref f5)=true)
   (a6:PySem.W.nsIn K mainGlobals "_law_number" = some (some (.ref f6))) (l6:K.lookup f6=some ⟨oc6,od6,.func (PySem.W.fnOf "_law_number" "_law_number" (aS fm) (ak fm) (ab fm) .none kV6 dc6 pm6 an6 cd6 ct6),sl6⟩) (c6:PySem.W.codeIn K cd6 "_law_number" = true) (k6:PySem.W.keepIn K (.ref f6)=true)
   (a7:PySem.W.nsIn K mainGlobals "_law_table" = some (some (.ref f7))) (l7:K.lookup f7=some ⟨oc7,od7,.func (PySem.W.fnOf "_law_table" "_law_table" (aS fU) (ak fU) (ab fU) .none kV7 dc7 pm7 an7 cd7 ct7),sl7⟩) (c7:PySem.W.codeIn K cd7 "_law_table" = true) (k7:PySem.W.keepIn K (.ref f7)=true)
   (a8:PySem.W.nsIn K mainGlobals "_law_cell" = some (some (.ref f8))) (l8:K.lookup f8=some ⟨oc8,od8,.func (PySem.W.fnOf "_law_cell" "_law_cell" (aS iF) (ak iF) (ab iF) .none kV8 dc8 pm8 an8 cd8 ct8),sl8⟩) (c8:PySem.W.codeIn K cd8 "_law_cell" = true) (k8:PySem.W.keepIn K (.ref f8)=true)
   (a9:PySem.W.nsIn K mainGlobals "_law_spoilt" = some (some (.ref f9))) (l9:K.lookup f9=some ⟨oc9,od9,.func (PySem.W.fnOf "_law_spoilt" "_law_spoilt" (aS fh) (ak fh) (ab fh) .none kV9 dc9 pm9 an9 cd9 ct9),sl9⟩) (c9:PySem.W.codeIn K cd9 "_law_spoilt" = true) (k9:PySem.W.keepIn K (.ref f9)=true)
   (a10:PySem.W.nsIn K mainGlobals "_law_copied" = some (some (.ref f10))) (l10:K.lookup f10=some ⟨oc10,od10,.func (PySem.W.fnOf "_law_copied" "_law_copied" (aS fu) (ak fu) (ab fu) .none kV10 dc10 pm10 an10 cd10 ct10),sl10⟩) (c10:PySem.W.codeIn K cd10 "_law_copied" = true) (k10:PySem.W.keepIn K (.ref f10)=true)
   (a11:PySem.W.nsIn K mainGlobals "is_short_list" = some (some (.ref f11))) (l11:K.lookup f11=some ⟨oc11,od11,.func (PySem.W.fnOf "is_short_list" "is_short_list" (aS ck) (ak ck) (ab ck) .none kV11 dc11 pm11 an11 cd11 ct11),sl11⟩) (c11:PySem.W.codeIn K cd11 "is_short_list" = true) (k11:PySem.W.keepIn K (.ref f11)=true)
   (a12:PySem.W.nsIn K mainGlobals "column_of" = some (some (.ref f12))) (l12:K.lookup f12=some ⟨oc12,od12,.func (PySem.W.fnOf "column_of" "column_of" (aS d9) (ak d9) (ab d9) .none kV12 dc12 pm12 an12 cd12 ct12),sl12⟩) (c12:PySem.W.codeIn K cd12 "column_of" = true) (k12:PySem.W.keepIn K (.ref f12)=true)
   (a13:PySem.W.nsIn K mainGlobals "may_be_empty" = some (some (.ref f13))) (l13:K.lookup f13=some ⟨oc13,od13,.func (PySem.W.fnOf "may_be_empty" "may_be_empty" (aS cE) (ak cE) (ab cE) .none kV13 dc13 pm13 an13 cd13 ct13),sl13⟩) (c13:PySem.W.codeIn K cd13 "may_be_empty" = true) (k13:PySem.W.keepIn K (.ref f13)=true)
   (a14:PySem.W.nsIn K mainGlobals "is_well_filled" = some (some (.ref f14))) (l14:K.lookup f14=some ⟨oc14,od14,.func (PySem.W.fnOf "is_well_filled" "is_well_filled" (aS bU) (ak bU) (ab bU) .none kV14 dc14 pm14 an14 cd14 ct14),sl14⟩) (c14:PySem.W.codeIn K cd14 "is_well_filled" = true) (k14:PySem.W.keepIn K (.ref f14)=true)
   (a15:PySem.W.nsIn K mainGlobals "is_whole" = some (some (.ref f15))) (l15:K.lookup f15=some ⟨oc15,od15,.func (PySem.W.fnOf "is_whole" "is_whole" (aS fw) (ak fw) (ab fw) .none kV15 dc15 pm15 an15 cd15 ct15),sl15⟩) (c15:PySem.W.codeIn K cd15 "is_whole" = true) (k15:PySem.W.keepIn K (.ref f15)=true)
   (a16:PySem.W.nsIn K mainGlobals "is_between" = some (some (.ref f16))) (l16:K.lookup f16=some ⟨oc16,od16,.func (PySem.W.fnOf "is_between" "is_between" (aS dG) (ak dG) (ab dG) .none kV16 dc16 pm16 an16 cd16 ct16),sl16⟩) (c16:PySem.W.codeIn K cd16 "is_between" = true) (k16:PySem.W.keepIn K (.ref f16)=true)
   (a17:PySem.W.nsIn K mainGlobals "is_row_of_marks" = some (some (.ref f17))) (l17:K.lookup f17=some ⟨oc17,od17,.func (PySem.W.fnOf "is_row_of_marks" "is_row_of_marks" (aS bO) (ak bO) (ab bO) .none kV17 dc17 pm17 an17 cd17 ct17),sl17⟩) (c17:PySem.W.codeIn K cd17 "is_row_of_marks" = true) (k17:PySem.W.keepIn K (.ref f17)=true)
   (a18:PySem.W.nsIn K mainGlobals "is_staircase" = some (some (.ref f18))) (l18:K.lookup f18=some ⟨oc18,od18,.func (PySem.W.fnOf "is_staircase" "is_staircase" (aS cF) (ak cF) (ab cF) .none kV18 dc18 pm18 an18 cd18 ct18),sl18⟩) (c18:PySem.W.codeIn K cd18 "is_staircase" = true) (k18:PySem.W.keepIn K (.ref f18)=true)
   (a19:PySem.W.nsIn K mainGlobals "common_divisor" = some (some (.ref f19))) (l19:K.lookup f19=some ⟨oc19,od19,.func (PySem.W.fnOf "common_divisor" "common_divisor" (aS bT) (ak bT) (ab bT) .none kV19 dc19 pm19 an19 cd19 ct19),sl19⟩) (c19:PySem.W.codeIn K cd19 "common_divisor" = true) (k19:PySem.W.keepIn K (.ref f19)=true)
   (a20:PySem.W.nsIn K mainGlobals "is_fraction" = some (some (.ref f20))) (l20:K.lookup f20=some ⟨oc20,od20,.func (PySem.W.fnOf "is_fraction" "is_fraction" (aS cV) (ak cV) (ab cV) .none kV20 dc20 pm20 an20 cd20 ct20),sl20⟩) (c20:PySem.W.codeIn K cd20 "is_fraction" = true) (k20:PySem.W.keepIn K (.ref f20)=true)
   (a21:PySem.W.nsIn K mainGlobals "is_row" = some (some (.ref f21))) (l21:K.lookup f21=some ⟨oc21,od21,.func (PySem.W.fnOf "is_row" "is_row" (aS iu) (ak iu) (ab iu) .none kV21 dc21 pm21 an21 cd21 ct21),sl21⟩) (c21:PySem.W.codeIn K cd21 "is_row" = true) (k21:PySem.W.keepIn K (.ref f21)=true)
   (a22:PySem.W.nsIn K mainGlobals "is_table" = some (some (.ref f22))) (l22:K.lookup f22=some ⟨oc22,od22,.func (PySem.W.fnOf "is_table" "is_table" (aS fg) (ak fg) (ab fg) .none kV22 dc22 pm22 an22 cd22 ct22),sl22⟩) (c22:PySem.W.codeIn K cd22 "is_table" = true) (k22:PySem.W.keepIn K (.ref f22)=true)
   (a23:PySem.W.nsIn K mainGlobals "look_table" = some (some (.ref f23))) (l23:K.lookup f23=some ⟨oc23,od23,.func (PySem.W.fnOf "look_table" "look_table" (aS dD) (ak dD) (ab dD) .none kV23 dc23 pm23 an23 cd23 ct23),sl23⟩) (c23:PySem.W.codeIn K cd23 "look_table" = true) (k23:PySem.W.keepIn K (.ref f23)=true)
   (a24:PySem.W.nsIn K mainGlobals "marks_in" = some (some (.ref f24))) (l24:K.lookup f24=some ⟨oc24,od24,.func (PySem.W.fnOf "marks_in" "marks_in" (aS fo) (ak fo) (ab fo) .none kV24 dc24 pm24 an24 cd24 ct24),sl24⟩) (c24:PySem.W.codeIn K cd24 "marks_in" = true) (k24:PySem.W.keepIn K (.ref f24)=true)
   (a25:PySem.W.nsIn K mainGlobals "marks_of" = some (some (.ref f25))) (l25:K.lookup f25=some ⟨oc25,od25,.func (PySem.W.fnOf "marks_of" "marks_of" (aS fj) (ak fj) (ab fj) .none kV25 dc25 pm25 an25 cd25 ct25),sl25⟩) (c25:PySem.W.codeIn K cd25 "marks_of" = true) (k25:PySem.W.keepIn K (.ref f25)=true)
   (a26:PySem.W.nsIn K mainGlobals "_law_whole" = some (some (.ref f26))) (l26:K.lookup f26=some ⟨oc26,od26,.func (PySem.W.fnOf "_law_whole" "_law_whole" (aS gc) (ak gc) (ab gc) .none kV26 dc26 pm26 an26 cd26 ct26),sl26⟩) (c26:PySem.W.codeIn K cd26 "_law_whole" = true) (k26:PySem.W.keepIn K (.ref f26)=true)
   (a27:PySem.W.nsIn K mainGlobals "_law_all_whole" = some (some (.ref f27))) (l27:K.lookup f27=some ⟨oc27,od27,.func (PySem.W.fnOf "_law_all_whole" "_law_all_whole" (aS cW) (ak cW) (ab cW) .none kV27 dc27 pm27 an27 cd27 ct27),sl27⟩) (c27:PySem.W.codeIn K cd27 "_law_all_whole" = true) (k27:PySem.W.keepIn K (.ref f27)=true)
   (a28:PySem.W.nsIn K mainGlobals "_law_is_stairs" = some (some (.ref f28))) (l28:K.lookup f28=some ⟨oc28,od28,.func (PySem.W.fnOf "_law_is_stairs" "_law_is_stairs" (aS cX) (ak cX) (ab cX) .none kV28 dc28 pm28 an28 cd28 ct28),sl28⟩) (c28:PySem.W.codeIn K cd28 "_law_is_stairs" = true) (k28:PySem.W.keepIn K (.ref f28)=true)
   (a29:PySem.W.nsIn K mainGlobals "_law_due" = some (some (.ref f29))) (l29:K.lookup f29=some ⟨oc29,od29,.func (PySem.W.fnOf "_law_due" "_law_due" (aS jW) (ak jW) (ab jW) .none kV29 dc29 pm29 an29 cd29 ct29),sl29⟩) (c29:PySem.W.codeIn K cd29 "_law_due" = true) (k29:PySem.W.keepIn K (.ref f29)=true)
   (a30:PySem.W.nsIn K mainGlobals "law" = some (some (.ref f30))) (l30:K.lookup f30=some ⟨oc30,od30,.func (PySem.W.fnOf "law" "law" (aS lB) (ak lB) (ab lB) .none kV30 dc30 pm30 an30 cd30 ct30),sl30⟩) (c30:PySem.W.codeIn K cd30 "law" = true) (k30:PySem.W.keepIn K (.ref f30)=true)
   (z0:PySem.W.nsIn K mainGlobals "len" = some none)    (z1:PySem.W.nsIn K mainGlobals "abs" = some none)    (z2:PySem.W.nsIn K mainGlobals "max" = some none)    (z3:PySem.W.nsIn K mainGlobals "min" = some none)    (z4:PySem.W.nsIn K mainGlobals "int" = some none)    (z5:PySem.W.nsIn K mainGlobals "bool" = some none)    (z6:PySem.W.nsIn K mainGlobals "list" = some none)    (z7:PySem.W.nsIn K mainGlobals "tuple" = some none)    (z8:PySem.W.nsIn K mainGlobals "str" = some none)    (z9:PySem.W.nsIn K mainGlobals "isinstance" = some none)    (z10:PySem.W.nsIn K mainGlobals "range" = some none)    (z11:PySem.W.nsIn K mainGlobals "enumerate" = some none)    (z12:PySem.W.nsIn K mainGlobals "all" = some none)    (z13:PySem.W.nsIn K mainGlobals "zip" = some none)    (z14:PySem.W.nsIn K mainGlobals "sorted" = some none)    (z15:PySem.W.nsIn K mainGlobals "sum" = some none)    (z16:PySem.W.nsIn K mainGlobals "any" = some none)    (z17:PySem.W.nsIn K mainGlobals "reversed" = some none)    (y0:PySem.W.nsIn K mainGlobals "MOST" = some (some (.int 7 t0)))
 :
   ∃ fd:FuncData,(∀ (s:Shared) (v:Value),BindsTo s fd ⟨[v],[]⟩ [("_law_script",v)])∧∀ base:Heap,K.In base→base.Ns mainGlobals mg→cK l.prog w K mg base CX0 31 fa fd ["_law_script"] (spU ⟨K,fun _=>0⟩ wB):=by
 have e:=hfa.symm.trans (PySem.W.mg_of X G a30)
 cases e
 have hb:∀ x ∈ Sv.aW,mg x=none:=by
   intro x hx
   simp only [Sv.aW,List.mem_cons,List.not_mem_nil,or_false] at hx
   rcases hx with rfl | rfl | rfl | rfl | rfl | rfl | rfl | rfl | rfl | rfl | rfl | rfl | rfl | rfl | rfl | rfl | rfl | rfl
   · exact PySem.W.mg_none_of X G z0
   · exact PySem.W.mg_none_of X G z1
   · exact PySem.W.mg_none_of X G z2
   · exact PySem.W.mg_none_of X G z3
   · exact PySem.W.mg_none_of X G z4
   · exact PySem.W.mg_none_of X G z5
   · exact PySem.W.mg_none_of X G z6
   · exact PySem.W.mg_none_of X G z7
   · exact PySem.W.mg_none_of X G z8
   · exact PySem.W.mg_none_of X G z9
   · exact PySem.W.mg_none_of X G z10
   · exact PySem.W.mg_none_of X G z11
   · exact PySem.W.mg_none_of X G z12
   · exact PySem.W.mg_none_of X G z13
   · exact PySem.W.mg_none_of X G z14
   · exact PySem.W.mg_none_of X G z15
   · exact PySem.W.mg_none_of X G z16
   · exact PySem.W.mg_none_of X G z17
 have hcst:∀ (x:Str) (i:Int),([("MOST",7)]:List (Str × Int)).lookup x=some i→∃ t,mg x=some (.int i t):=by
   intro x i hx
   simp only [List.lookup_cons,List.lookup_nil] at hx
   split at hx
   · rename_i he
     have he:x = "MOST":=by simpa using he
     subst he
     cases hx
     exact ⟨_,PySem.W.mg_of X G y0⟩
   cases hx
 have F0:=bE (st:=ej) l0 c0 k0
 have b0:=F0.binds (ps:=["_law_cell_here","_law_bases"]) (lr fun _ _=>rfl)
 have F1:=bE (st:=ik) l1 c1 k1
 have b1:=F1.binds (ps:=["_law_cell_here"]) (fQ fun _=>rfl)
 have F2:=bE (st:=d8) l2 c2 k2
 have b2:=F2.binds (ps:=["_law_clear"]) (fQ fun _=>rfl)
 have F3:=bE (st:=gk) l3 c3 k3
 have b3:=F3.binds (ps:=["_law_cell_here","_law_many","_law_wide"]) (zc fun _ _ _=>rfl)
 have F4:=bE (st:=eg) l4 c4 k4
 have b4:=F4.binds (ps:=["_law_one","_law_other"]) (lr fun _ _=>rfl)
 have F5:=bE (st:=iy) l5 c5 k5
 have b5:=F5.binds (ps:=["_law_top","_law_bottom"]) (lr fun _ _=>rfl)
 have F6:=bE (st:=fm) l6 c6 k6
 have b6:=F6.binds (ps:=["_law_kind","_law_part"]) (lr fun _ _=>rfl)
 have F7:=bE (st:=fU) l7 c7 k7
 have b7:=F7.binds (ps:=["_law_cell_here","_law_many","_law_wide","_law_kind"]) (Lk fun _ _ _ _=>rfl)
 have F8:=bE (st:=iF) l8 c8 k8
 have b8:=F8.binds (ps:=["_law_script","_law_k"]) (lr fun _ _=>rfl)
 have F9:=bE (st:=fh) l9 c9 k9
 have b9:=F9.binds (ps:=["_law_marks","_law_parts"]) (lr fun _ _=>rfl)
 have F10:=bE (st:=fu) l10 c10 k10
 have b10:=F10.binds (ps:=["_law_thing"]) (fQ fun _=>rfl)
 have F11:=bE (st:=ck) l11 c11 k11
 have b11:=F11.binds (ps:=["thing"]) (fQ fun _=>rfl)
 have F12:=bE (st:=d9) l12 c12 k12
 have b12:=F12.binds (ps:=["table","j"]) (lr fun _ _=>rfl)
 have F13:=bE (st:=cE) l13 c13 k13
 have b13:=F13.binds (ps:=["marks","i","j"]) (zc fun _ _ _=>rfl)
 have F14:=bE (st:=bU) l14 c14 k14
 have b14:=F14.binds (ps:=["marks","i"]) (lr fun _ _=>rfl)
 have F15:=bE (st:=fw) l15 c15 k15
 have b15:=F15.binds (ps:=["thing"]) (fQ fun _=>rfl)
 have F16:=bE (st:=dG) l16 c16 k16
 have b16:=F16.binds (ps:=["thing","least","most"]) (zc fun _ _ _=>rfl)
 have F17:=bE (st:=bO) l17 c17 k17
 have b17:=F17.binds (ps:=["thing"]) (fQ fun _=>rfl)
 have F18:=bE (st:=cF) l18 c18 k18
 have b18:=F18.binds (ps:=["thing"]) (fQ fun _=>rfl)
 have F19:=bE (st:=bT) l19 c19 k19
 have b19:=F19.binds (ps:=["one","other"]) (lr fun _ _=>rfl)
 have F20:=bE (st:=cV) l20 c20 k20
 have b20:=F20.binds (ps:=["thing"]) (fQ fun _=>rfl)
 have F21:=bE (st:=iu) l21 c21 k21
 have b21:=F21.binds (ps:=["thing"]) (fQ fun _=>rfl)
 have F22:=bE (st:=fg) l22 c22 k22
 have b22:=F22.binds (ps:=["thing"]) (fQ fun _=>rfl)
 have F23:=bE (st:=dD) l23 c23 k23
 have b23:=F23.binds (ps:=["thing"]) (fQ fun _=>rfl)
 have F24:=bE (st:=fo) l24 c24 k24
 have b24:=F24.binds (ps:=["row"]) (fQ fun _=>rfl)
 have F25:=bE (st:=fj) l25 c25 k25
 have b25:=F25.binds (ps:=["table"]) (fQ fun _=>rfl)
 have F26:=bE (st:=gc) l26 c26 k26
 have b26:=F26.binds (ps:=["_law_thing"]) (fQ fun _=>rfl)
 have F27:=bE (st:=cW) l27 c27 k27
 have b27:=F27.binds (ps:=["_law_found"]) (fQ fun _=>rfl)
 have F28:=bE (st:=cX) l28 c28 k28
 have b28:=F28.binds (ps:=["_law_marks"]) (fQ fun _=>rfl)
 have F29:=bE (st:=jW) l29 c29 k29
 have b29:=F29.binds (ps:=["_law_thing"]) (fQ fun _=>rfl)
 have F30:=bE (st:=lB) l30 c30 k30
 have b30:=F30.binds (ps:=["_law_script"]) (fQ fun _=>rfl)
 refine ⟨PySem.W.fnOf "law" "law" (aS lB) (ak lB) (ab lB) .none kV30 dc30 pm30 an30 cd30 ct30,fun s v=>.of_eq rfl,fun base _ _=>?_⟩
 have C0:dR l.prog w K mg base CX0 (fun _=>0) 0 lS0 lF0:=dR.nil
 have G0:cK l.prog w K mg base CX0 1 f0 _ _ (spU ⟨K,fun _=>0⟩ oE):=fnU F0 tS uM hb hcst C0
 have C1:dR l.prog w K mg base CX0 (fun _=>0) 1 lS1 lF1:=C0.snoc rfl (bI G0 (PySem.W.mg_of X G a0) k0 b0)
 have G1:cK l.prog w K mg base CX0 2 f1 _ _ (spU ⟨K,fun _=>0⟩ wY):=fnU F1 Af AS hb hcst C1
 have C2:dR l.prog w K mg base CX0 (fun _=>0) 2 lS2 lF2:=C1.snoc rfl (bI G1 (PySem.W.mg_of X G a1) k1 b1)
 have G2:cK l.prog w K mg base CX0 3 f2 _ _ (spU ⟨K,fun _=>0⟩ oB):=fnU F2 uE uc hb hcst C2
 have C3:dR l.prog w K mg base CX0 (fun _=>0) 3 lS3 lF3:=C2.snoc rfl (bI G2 (PySem.W.mg_of X G a2) k2 b2)
 have G3:cK l.prog w K mg base CX0 4 f3 _ _ (spU ⟨K,fun _=>0⟩ sV):=fnU F3 yj yz hb hcst C3
 have C4:dR l.prog w K mg base CX0 (fun _=>0) 4 lS4 lF4:=C3.snoc rfl (bI G3 (PySem.W.mg_of X G a3) k3 b3)
 have G4:cK l.prog w K mg base CX0 5 f4 _ _ (spU ⟨K,fun _=>0⟩ oH):=fnU F4 tG tm hb hcst C4
 have C5:dR l.prog w K mg base CX0 (fun _=>0) 5 lS5 lF5:=C4.snoc rfl (bI G4 (PySem.W.mg_of X G a4) k4 b4)
 have G5:cK l.prog w K mg base CX0 6 f5 _ _ (spU ⟨K,fun _=>0⟩ wg):=fnU F5 AG AA hb hcst C5
 have C6:dR l.prog w K mg base CX0 (fun _=>0) 6 lS6 lF6:=C5.snoc rfl (bI G5 (PySem.W.mg_of X G a5) k5 b5)
 have G6:cK l.prog w K mg base CX0 7 f6 _ _ (spU ⟨K,fun _=>0⟩ qp):=fnU F6 wt vN hb hcst C6
 have C7:dR l.prog w K mg base CX0 (fun _=>0) 7 lS7 lF7:=C6.snoc rfl (bI G6 (PySem.W.mg_of X G a6) k6 b6)
 have G7:cK l.prog w K mg base CX0 8 f7 _ _ (spU ⟨K,fun _=>0⟩ sN):=fnU F7 yk yC hb hcst C7
 have C8:dR l.prog w K mg base CX0 (fun _=>0) 8 lS8 lF8:=C7.snoc rfl (bI G7 (PySem.W.mg_of X G a7) k7 b7)
 have G8:cK l.prog w K mg base CX0 9 f8 _ _ (spU ⟨K,fun _=>0⟩ vw):=fnU F8 Aq AB hb hcst C8
 have C9:dR l.prog w K mg base CX0 (fun _=>0) 9 lS9 lF9:=C8.snoc rfl (bI G8 (PySem.W.mg_of X G a8) k8 b8)
 have G9:cK l.prog w K mg base CX0 10 f9 _ _ (spU ⟨K,fun _=>0⟩ qu):=fnU F9 wu vO hb hcst C9
 have C10:dR l.prog w K mg base CX0 (fun _=>0) 10 JZ EK:=C9.snoc rfl (bI G9 (PySem.W.mg_of X G a9) k9 b9)
 have G10:cK l.prog w K mg base CX0 11 f10 _ _ (spU ⟨K,fun _=>0⟩ qC):=fnU F10 vL uY hb hcst C10
 have C11:dR l.prog w K mg base CX0 (fun _=>0) 11 HJ Ey:=C10.snoc rfl (bI G10 (PySem.W.mg_of X G a10) k10 b10)
 have G11:cK l.prog w K mg base CX0 12 f11 _ _ (spU ⟨K,fun _=>0⟩ jX):=fnU F11 oz nF hb hcst C11
 have C12:dR l.prog w K mg base CX0 (fun _=>0) 12 HL DU:=C11.snoc rfl (bI G11 (PySem.W.mg_of X G a11) k11 b11)
 have G12:cK l.prog w K mg base CX0 13 f12 _ _ (spU ⟨K,fun _=>0⟩ oQ):=fnU F12 tU tF hb hcst C12
 have C13:dR l.prog w K mg base CX0 (fun _=>0) 13 Hu Fy:=C12.snoc rfl (bI G12 (PySem.W.mg_of X G a12) k12 b12)
 have G13:cK l.prog w K mg base CX0 14 f13 _ _ (spU ⟨K,fun _=>0⟩ kc):=fnU F13 oX o9 hb hcst C13
 have C14:dR l.prog w K mg base CX0 (fun _=>0) 14 GZ Ef:=C13.snoc rfl (bI G13 (PySem.W.mg_of X G a13) k13 b13)
 have G14:cK l.prog w K mg base CX0 15 f14 _ _ (spU ⟨K,fun _=>0⟩ i8):=fnU F14 mI mH hb hcst C14
 have C15:dR l.prog w K mg base CX0 (fun _=>0) 15 Gu Ej:=C14.snoc rfl (bI G14 (PySem.W.mg_of X G a14) k14 b14)
 have G15:cK l.prog w K mg base CX0 16 f15 _ _ (spU ⟨K,fun _=>0⟩ qh):=fnU F15 xc wN hb hcst C15
 have C16:dR l.prog w K mg base CX0 (fun _=>0) 16 HF DK:=C15.snoc rfl (bI G15 (PySem.W.mg_of X G a15) k15 b15)
 have G16:cK l.prog w K mg base CX0 17 f16 _ _ (spU ⟨K,fun _=>0⟩ mL):=fnU F16 rG rQ hb hcst C16
 have C17:dR l.prog w K mg base CX0 (fun _=>0) 17 Gi D7:=C16.snoc rfl (bI G16 (PySem.W.mg_of X G a16) k16 b16)
 have G17:cK l.prog w K mg base CX0 18 f17 _ _ (spU ⟨K,fun _=>0⟩ iV):=fnU F17 lR lH hb hcst C17
 have C18:dR l.prog w K mg base CX0 (fun _=>0) 18 HZ FI:=C17.snoc rfl (bI G17 (PySem.W.mg_of X G a17) k17 b17)
 have G18:cK l.prog w K mg base CX0 19 f18 _ _ (spU ⟨K,fun _=>0⟩ kr):=fnU F18 pb pg hb hcst C18
 have C19:dR l.prog w K mg base CX0 (fun _=>0) 19 IZ Ff:=C18.snoc rfl (bI G18 (PySem.W.mg_of X G a18) k18 b18)
 have G19:cK l.prog w K mg base CX0 20 f19 _ _ (spU ⟨K,fun _=>0⟩ i4):=fnU F19 mV nc hb hcst C19
 have C20:dR l.prog w K mg base CX0 (fun _=>0) 20 IG Ei:=C19.snoc rfl (bI G19 (PySem.W.mg_of X G a19) k19 b19)
 have G20:cK l.prog w K mg base CX0 21 f20 _ _ (spU ⟨K,fun _=>0⟩ lx):=fnU F20 pZ qc hb hcst C20
 have C21:dR l.prog w K mg base CX0 (fun _=>0) 21 GW EL:=C20.snoc rfl (bI G20 (PySem.W.mg_of X G a20) k20 b20)
 have G21:cK l.prog w K mg base CX0 22 f21 _ _ (spU ⟨K,fun _=>0⟩ vF):=fnU F21 zU AY hb hcst C21
 have C22:dR l.prog w K mg base CX0 (fun _=>0) 22 J1 DR:=C21.snoc rfl (bI G21 (PySem.W.mg_of X G a21) k21 b21)
 have G22:cK l.prog w K mg base CX0 23 f22 _ _ (spU ⟨K,fun _=>0⟩ qM):=fnU F22 wy u9 hb hcst C22
 have C23:dR l.prog w K mg base CX0 (fun _=>0) 23 GU Fv:=C22.snoc rfl (bI G22 (PySem.W.mg_of X G a22) k22 b22)
 have G23:cK l.prog w K mg base CX0 24 f23 _ _ (spU ⟨K,fun _=>0⟩ nq):=fnU F23 sg rj hb hcst C23
 have C24:dR l.prog w K mg base CX0 (fun _=>0) 24 Jm DZ:=C23.snoc rfl (bI G23 (PySem.W.mg_of X G a23) k23 b23)
 have G24:cK l.prog w K mg base CX0 25 f24 _ _ (spU ⟨K,fun _=>0⟩ qS):=fnU F24 u4 v5 hb hcst C24
 have C25:dR l.prog w K mg base CX0 (fun _=>0) 25 JK DJ:=C24.snoc rfl (bI G24 (PySem.W.mg_of X G a24) k24 b24)
 have G25:cK l.prog w K mg base CX0 26 f25 _ _ (spU ⟨K,fun _=>0⟩ p8):=fnU F25 vo vy hb hcst C25
 have C26:dR l.prog w K mg base CX0 (fun _=>0) 26 Gh ED:=C25.snoc rfl (bI G25 (PySem.W.mg_of X G a25) k25 b25)
 have G26:cK l.prog w K mg base CX0 27 f26 _ _ (spU ⟨K,fun _=>0⟩ sO):=fnU F26 xx yH hb hcst C26
 have C27:dR l.prog w K mg base CX0 (fun _=>0) 27 Il EX:=C26.snoc rfl (bI G26 (PySem.W.mg_of X G a26) k26 b26)
 have G27:cK l.prog w K mg base CX0 28 f27 _ _ (spU ⟨K,fun _=>0⟩ lu):=fnU F27 q9 p7 hb hcst C27
 have C28:dR l.prog w K mg base CX0 (fun _=>0) 28 Ie Fh:=C27.snoc rfl (bI G27 (PySem.W.mg_of X G a27) k27 b27)
 have G28:cK l.prog w K mg base CX0 29 f28 _ _ (spU ⟨K,fun _=>0⟩ lA):=fnU F28 pY qJ hb hcst C28
 have C29:dR l.prog w K mg base CX0 (fun _=>0) 29 Jn E8:=C28.snoc rfl (bI G28 (PySem.W.mg_of X G a28) k28 b28)
 have G29:cK l.prog w K mg base CX0 30 f29 _ _ (spU ⟨K,fun _=>0⟩ yR):=fnU F29 Bd Bl hb hcst C29
 have C30:dR l.prog w K mg base CX0 (fun _=>0) 30 Kg FH:=C29.snoc rfl (bI G29 (PySem.W.mg_of X G a29) k29 b29)
 have G30:cK l.prog w K mg base CX0 31 fa _ _ (spU ⟨K,fun _=>0⟩ wB):=fnU F30 Iw JS hb hcst C30
 exact G30
theorem walk {l:PySem.W.OpenLaw} {q:Program} {loose:List Str} {XP:(Str→Option Value)→Heap→Prop} {YP:World→Heap→Prop} {d:DefRec} {K:Params→PySem.W.Frag} (hn:l.most=some 63) (hdf:d.params.defaults=[])
   (hY:∀ (w:World) (h:Heap),YP w h→(K w.params).In h)
   (F:∀ (w:World) (mg:Str→Option Value) (fa:Addr) (h:Heap),(K w.params).In h→h.Ns mainGlobals mg→mg d.name=some (.ref fa) →
     ∃ fd:FuncData,(∀ (s:Shared) (u:Value),BindsTo s fd ⟨[u],[]⟩ [("_law_script",u)])∧∀ base:Heap,(K w.params).In base→base.Ns mainGlobals mg→cK l.prog w (K w.params) mg base CX0 31 fa fd ["_law_script"] (spU ⟨K w.params,fun _=>0⟩ wB)) :
   PySem.W.WalkO q loose XP YP l.row.toRowW d [] (fun f vs=>PySem.call f vs):=
 L2.Fg (n:=63) (k:=31) (x:="_law_script") (CX:=fun _=>CX0) (sp:=fun w=>spU ⟨K w.params,fun _=>0⟩ wB) hn (by decide) hdf ⟨rfl,by decide,by decide⟩ hY F
   (fun w H a ns hl hO hS=>Hn (Ln.at.1 30) (fun ns h=>FX ns h) w H a ns hl hO hS) fun _ _ _ _ _ z=>z
end K50
open PySem PySem.W PyProof.Rows
theorem PySem.W.Fast.tw11408538043516193151:True:=trivial
theorem PySem.W.Fast.tw3026517247855385194:True:=trivial
theorem PySem.W.Fast.tw11389399351389773515:True:=trivial
theorem PySem.W.Fast.tw6265856556663512426:True:=trivial
theorem PySem.W.Fast.tw2184316982493066668:True:=trivial
theorem PySem.W.Fast.tw3461879121942923398:True:=trivial
theorem PySem.W.Fast.tw16397102661791112004:True:=trivial
theorem PySem.W.Fast.tw15811090857807143285:True:=trivial
theorem PySem.W.Fast.tw8887235212390937818:True:=trivial
theorem PySem.W.Fast.tw8297930758925864957:True:=trivial
theorem PySem.W.Fast.tw6051515731362217577:True:=trivial
set_option maxRecDepth 100000 in
set_option maxHeartbeats 0 in
theorem PySem.Challenge.cw_signsmooth_k50_staircases_known_holds : PySem.Challenge.rw_signsmooth_k50_staircases_known.Holds := by
 w_on; o_law; k_head; (case hw=>w_witness2)
 k_fill
 refine K50.walk (l:=PySem.Challenge.rw_signsmooth_k50_staircases_known) rfl rfl (fun w h Y=>PySem.W.kIn_of Y) ?F
 case F=>
   intro w mg fa h KX G hmg
   refine' K50.all_mk KX G hmg ?a0 ?l0 ?c0 ?k0 ?a1 ?l1 ?c1 ?k1 ?a2 ?l2 ?c2 ?k2 ?a3 ?l3 ?c3 ?k3 ?a4 ?l4 ?c4 ?k4 ?a5 ?l5 ?c5 ?k5 ?a6 ?l6 ?c6 ?k6 ?a7 ?l7 ?c7 ?k7 ?a8 ?l8 ?c8 ?k8 ?a9 ?l9 ?c9 ?k9 ?a10 ?l10 ?c10 ?k10 ?a11 ?l11 ?c11 ?k11 ?a12 ?l12 ?c12 ?k12 ?a13 ?l13 ?c13 ?k13 ?a14 ?l14 ?c14 ?k14 ?a15 ?l15 ?c15 ?k15 ?a16 ?l16 ?c16 ?k16 ?a17 ?l17 ?c17 ?k17 ?a18 ?l18 ?c18 ?k18 ?a19 ?l19 ?c19 ?k19 ?a20 ?l20 ?c20 ?k20 ?a21 ?l21 ?c21 ?k21 ?a22 ?l22 ?c22 ?k22 ?a23 ?l23 ?c23 ?k23 ?a24 ?l24 ?c24 ?k24 ?a25 ?l25 ?c25 ?k25 ?a26 ?l26 ?c26 ?k26 ?a27 ?l27 ?c27 ?k27 ?a28 ?l28 ?c28 ?k28 ?a29 ?l29 ?c29 ?k29 ?a30 ?l30 ?c30 ?k30 ?z0 ?z1 ?z2 ?z3 ?z4 ?z5 ?z6 ?z7 ?z8 ?z9 ?z10 ?z11 ?z12 ?z13 ?z14 ?z15 ?z16 ?z17 ?y0
   (case a0=>k_is)
   (case l0=>k_is)
   (case c0=>k_is)
   (case k0=>k_is)
   (case a1=>k_is)
   (case l1=>k_is)
   (case c1=>k_is)
   (case k1=>k_is)
   (case a2=>k_is)
   (case l2=>k_is)
   (case c2=>k_is)
   (case k2=>k_is)
   (case a3=>k_is)
   (case l3=>k_is)
   (case c3=>k_is)
   (case k3=>k_is)
   (case a4=>k_is)
   (case l4=>k_is)
   (case c4=>k_is)
   (case k4=>k_is)
   (case a5=>k_is)
   (case l5=>k_is)
   (case c5=>k_is)
   (case k5=>k_is)
   (case a6=>k_is)
   (case l6=>k_is)
   (case c6=>k_is)
   (case k6=>k_is)
   (case a7=>k_is)
   (case l7=>k_is)
   (case c7=>k_is)
   (case k7=>k_is)
   (case a8=>k_is)
   (case l8=>k_is)
   (case c8=>k_is)
   (case k8=>k_is)
   (case a9=>k_is)
   (case l9=>k_is)
   (case c9=>k_is)
   (case k9=>k_is)
   (case a10=>k_is)
   (case l10=>k_is)
   (case c10=>k_is)
   (case k10=>k_is)
   (case a11=>k_is)
   (case l11=>k_is)
   (case c11=>k_is)
   (case k11=>k_is)
   (case a12=>k_is)
   (case l12=>k_is)
   (case c12=>k_is)
   (case k12=>k_is)
   (case a13=>k_is)
   (case l13=>k_is)
   (case c13=>k_is)
   (case k13=>k_is)
   (case a14=>k_is)
   (case l14=>k_is)
   (case c14=>k_is)
   (case k14=>k_is)
   (case a15=>k_is)
   (case l15=>k_is)
   (case c15=>k_is)
   (case k15=>k_is)
   (case a16=>k_is)
   (case l16=>k_is)
   (case c16=>k_is)
   (case k16=>k_is)
   (case a17=>k_is)
   (case l17=>k_is)
   (case c17=>k_is)
   (case k17=>k_is)
   (case a18=>k_is)
   (case l18=>k_is)
   (case c18=>k_is)
   (case k18=>k_is)
   (case a19=>k_is)
   (case l19=>k_is)
   (case c19=>k_is)
   (case k19=>k_is)
   (case a20=>k_is)
   (case l20=>k_is)
   (case c20=>k_is)
   (case k20=>k_is)
   (case a21=>k_is)
   (case l21=>k_is)
   (case c21=>k_is)
   (case k21=>k_is)
   (case a22=>k_is)
   (case l22=>k_is)
   (case c22=>k_is)
   (case k22=>k_is)
   (case a23=>k_is)
   (case l23=>k_is)
   (case c23=>k_is)
   (case k23=>k_is)
   (case a24=>k_is)
   (case l24=>k_is)
   (case c24=>k_is)
   (case k24=>k_is)
   (case a25=>k_is)
   (case l25=>k_is)
   (case c25=>k_is)
   (case k25=>k_is)
   (case a26=>k_is)
   (case l26=>k_is)
   (case c26=>k_is)
   (case k26=>k_is)
   (case a27=>k_is)
   (case l27=>k_is)
   (case c27=>k_is)
   (case k27=>k_is)
   (case a28=>k_is)
   (case l28=>k_is)
   (case c28=>k_is)
   (case k28=>k_is)
   (case a29=>k_is)
   (case l29=>k_is)
   (case c29=>k_is)
   (case k29=>k_is)
   (case a30=>k_is)
   (case l30=>k_is)
   (case c30=>k_is)
   (case k30=>k_is)
   (case z0=>k_is)
   (case z1=>k_is)
   (case z2=>k_is)
   (case z3=>k_is)
   (case z4=>k_is)
   (case z5=>k_is)
   (case z6=>k_is)
   (case z7=>k_is)
   (case z8=>k_is)
   (case z9=>k_is)
   (case z10=>k_is)
   (case z11=>k_is)
   (case z12=>k_is)
   (case z13=>k_is)
   (case z14=>k_is)
   (case z15=>k_is)
   (case z16=>k_is)
   (case z17=>k_is)
   (case y0=>k_is)
#print axioms PySem.Challenge.cw_signsmooth_k50_staircases_known_holds
