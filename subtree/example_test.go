package subtree_test

import (
	"fmt"

	"certpath/api"
	"certpath/dname"
	"certpath/gname"
	"certpath/subtree"
)

// The example of README.md, with that of the chapter.
func Example() {
	org, _ := gname.Parse("dns:example.org")
	www, _ := gname.Parse("dns:www.example.org")
	ann, _ := gname.Parse("mail:ann@example.org")
	s := api.Subtrees{Permitted: []api.GeneralName{org}}
	fmt.Println(subtree.Check(s), subtree.Check(api.Subtrees{}) == api.ErrValue)

	b, err := subtree.Encode(s)
	fmt.Printf("% x %d\n", b[:8], err)
	back, err := subtree.Decode(b)
	fmt.Println(gname.Same(back.Permitted[0], org), len(back.Excluded), err)
	_, err = subtree.Decode("\x30\x02\xa0\x00")
	fmt.Println(err == api.ErrValue)

	st := subtree.Add(api.NameState{}, s)
	fmt.Println(subtree.Permits(st, www), subtree.Permits(st, org), subtree.Permits(st, ann))
	st = subtree.Add(st, api.Subtrees{Permitted: []api.GeneralName{www}})
	fmt.Println(subtree.Permits(st, www), subtree.Permits(st, org), subtree.Permits(st, ann))
	st = subtree.Add(st, api.Subtrees{Excluded: []api.GeneralName{ann}})

	subject, _ := dname.Parse("O=Example,E=ann@example.org")
	fmt.Println(subtree.PermitsAll(st, api.Name{}, []api.GeneralName{www}), subtree.PermitsAll(st, subject, []api.GeneralName{www}))

	r := subtree.Reduce(st)
	fmt.Println(r.Limited, len(r.Permitted), gname.Same(r.Permitted[0], www), len(r.Excluded))
	fmt.Println(subtree.PermitsReduced(r, www), subtree.PermitsReduced(r, org), subtree.PermitsReduced(r, ann))
	// Output:
	// 0 true
	// 30 11 a0 0f 30 0d 82 0b 0
	// true 0 0
	// true
	// true true true
	// true false true
	// true false
	// [2] 1 true 1
	// true false false
}
