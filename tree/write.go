package tree

import (
	"strings"

	"tariff/api"
	"tariff/chars"
)

// head is the first line of each document that is written.
const head = `<?xml version="1.0" encoding="UTF-8"?>` + "\n"

// writer is a document that is being written.
type writer struct {
	doc  []byte
	open []string // the names of the elements that are to be closed, the innermost last
	long bool     // something was left out that had no room
}

// Write: the document of a tree.
func Write(t []api.Elem) (string, api.Errno) {
	if e := Check(t); e != api.OK {
		return "", e
	}
	w := writer{doc: []byte(head)}
	ups := []int{-1}
	for i, e := range t {
		for ups[len(ups)-1] != e.Up {
			ups = ups[:len(ups)-1]
			w.close()
		}
		// The first of its elements follows it at once, if it has any.
		parent := i+1 < len(t) && t[i+1].Up == i
		w.element(e, parent)
		if parent {
			ups = append(ups, i)
		}
		if w.full() {
			return "", api.ErrLong
		}
	}
	for len(w.open) > 0 {
		w.close()
	}
	if w.full() {
		return "", api.ErrLong
	}
	return string(w.doc), api.OK
}

// element writes an element; of a parent of others, what stands ahead of them.
func (w *writer) element(e api.Elem, parent bool) {
	w.indent()
	w.put("<", e.Name)
	for _, a := range e.Attrs {
		w.put(" ", a.Name, `="`)
		w.escape(a.Value, true)
		w.put(`"`)
	}
	switch {
	case parent:
		w.put(">\n")
		w.open = append(w.open, e.Name)
	case e.Text == "":
		w.put("/>\n")
	default:
		w.put(">")
		w.escape(e.Text, false)
		w.put("</", e.Name, ">\n")
	}
}

// close writes the end of the innermost parent.
func (w *writer) close() {
	last := len(w.open) - 1
	name := w.open[last]
	w.open = w.open[:last]
	w.indent()
	w.put("</", name, ">\n")
}

// indent writes the blanks ahead of a line.
func (w *writer) indent() {
	w.put(strings.Repeat("  ", len(w.open)))
}

// put writes strings as they are.
func (w *writer) put(list ...string) {
	for _, s := range list {
		w.doc = append(w.doc, s...)
	}
}

// escape writes a text. A text is no longer than what is written for it, so one without
// room is left out ahead of that: it may be far longer than a document.
func (w *writer) escape(s string, attr bool) {
	if len(s) > api.MaxBytes {
		w.long = true
		return
	}
	// Check has found that it is a text, and Escape refuses nothing else.
	escaped, _ := chars.Escape(s, attr)
	w.put(escaped)
}

// full tells whether the document is longer than one may be.
func (w *writer) full() bool {
	return w.long || len(w.doc) > api.MaxBytes
}
