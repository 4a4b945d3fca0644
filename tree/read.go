package tree

import (
	"strings"

	"tariff/api"
	"tariff/mark"
)

// builder is a tree that is being built of the pieces of a document.
type builder struct {
	tree []api.Elem
	open []int  // the elements that are not closed, the innermost last
	leaf bool   // the innermost of them has no elements so far
	text []byte // the characters of that leaf so far
}

// Read: the tree of a document; the place where it can't be read on.
func Read(b string) ([]api.Elem, int, api.Errno) {
	events, at, e := mark.Read(b)
	if e != api.OK {
		return nil, at, e
	}
	var made builder
	for _, event := range events {
		if !made.add(event) {
			return nil, 0, api.ErrText
		}
	}
	if len(made.open) > 0 || len(made.tree) == 0 {
		return nil, len(b), api.ErrText
	}
	// The pieces make no tree that is not in form: Check can tell of its limits alone.
	if e := Check(made.tree); e != api.OK {
		return nil, 0, e
	}
	return made.tree, 0, api.OK
}

// add takes in the next piece; false if it may not stand there.
func (b *builder) add(e api.Event) bool {
	switch e.Kind {
	case api.Open:
		return b.begin(e)
	case api.Close:
		return b.end(e.Name)
	}
	if !b.leaf {
		return blank(e.Text)
	}
	b.text = append(b.text, e.Text...)
	return true
}

// begin opens an element within the innermost one.
func (b *builder) begin(e api.Event) bool {
	up := -1
	if len(b.open) > 0 {
		up = b.open[len(b.open)-1]
	}
	// What stood there ahead of the first element within must be blanks, as what follows it.
	if up < 0 && len(b.tree) > 0 || !blank(string(b.text)) {
		return false
	}
	b.open = append(b.open, len(b.tree))
	b.tree = append(b.tree, api.Elem{Name: e.Name, Up: up, Attrs: e.Attrs})
	b.leaf, b.text = true, nil
	return true
}

// end closes the innermost element, which must have that name.
func (b *builder) end(name string) bool {
	last := len(b.open) - 1
	if last < 0 || b.tree[b.open[last]].Name != name {
		return false
	}
	b.tree[b.open[last]].Text = string(b.text)
	b.open = b.open[:last]
	b.leaf, b.text = false, nil
	return true
}

// blank tells whether a text has blanks alone.
func blank(s string) bool {
	return strings.Trim(s, " \t\n\r") == ""
}
