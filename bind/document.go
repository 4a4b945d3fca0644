package bind

import (
	"slices"

	"tariff/api"
)

// document is a tree in form, and for each element the places of those directly within it.
type document struct {
	tree []api.Elem
	kids [][]int
}

// kidsOf is the places of the elements directly within each one. (tree.Kids checks the whole tree
// for each element.)
func kidsOf(t []api.Elem) [][]int {
	kids := make([][]int, len(t))
	for i, e := range t {
		if e.Up >= 0 {
			kids[e.Up] = append(kids[e.Up], i)
		}
	}
	return kids
}

// all is the places of the elements with a name directly within one.
func (d document) all(at int, name string) []int {
	var list []int
	for _, k := range d.kids[at] {
		if d.tree[k].Name == name {
			list = append(list, k)
		}
	}
	return list
}

// value is the value of an element's attribute; false if it has none with that name.
func (d document) value(at int, name string) (string, bool) {
	attrs := d.tree[at].Attrs
	i := slices.IndexFunc(attrs, func(a api.Attr) bool { return a.Name == name })
	if i < 0 {
		return "", false
	}
	return attrs[i].Value, true
}
