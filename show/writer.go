package show

import "strings"

// writer holds the text so far, and the tabs that stand ahead of the next line.
type writer struct {
	text strings.Builder
	tabs []byte
}

// put puts texts one behind another. All is put where it stands in the whole text at once: texts of parts, joined level by level, would be copied as often as they lie deep.
func (w *writer) put(texts ...string) {
	for _, t := range texts {
		w.text.WriteString(t)
	}
}

// line puts what a line begins with.
func (w *writer) line(texts ...string) {
	w.text.Write(w.tabs)
	w.put(texts...)
}

// row puts each of a list, with a text between each two.
func row[T any](w *writer, list []T, between string, put func(*T)) {
	for i := range list {
		if i > 0 {
			w.put(between)
		}
		put(&list[i])
	}
}

// block puts the end of the line that begins a block, and the block's lines, but not the one that ends it, since an if's may be that of its else.
func block[T any](w *writer, list []T, put func(*T)) {
	w.put(" {\n")
	w.tabs = append(w.tabs, '\t')
	row(w, list, "", put)
	w.tabs = w.tabs[:len(w.tabs)-1]
}
