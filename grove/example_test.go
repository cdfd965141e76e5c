package grove_test

import (
	"fmt"

	"grove/api"
	"grove/grove"
)

func Example() {
	g := grove.New()
	list, _ := g.Make(api.Element, "list")
	one, _ := g.Make(api.Element, "item")
	two, _ := g.Make(api.Text, "the second")
	g.Put(list, one, 0)
	g.Put(list, two, one)
	kids, _ := g.Kids(list)
	fmt.Println(kids)
	fmt.Println(g.Put(one, list, 0) == api.ErrPlace)
	g.Take(two)
	kids, _ = g.Kids(list)
	fmt.Println(kids)
	// Output:
	// [3 2]
	// true
	// [2]
}
