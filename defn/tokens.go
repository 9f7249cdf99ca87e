package defn

import "switchyard/api"

// tokens are those of a source, the last of which is a TokEnd, and how many of
// them were read. Reading stops at one that is wrong by a panic with a stop.
type tokens struct {
	list []api.Token
	at   int
}

// stop is the end of reading: at which offset of the source, and why.
type stop struct {
	at  int
	bad api.Errno
}

// here returns the first token that was not read.
func (t *tokens) here() api.Token {
	return t.list[t.at]
}

// refuse stops at the token here.
func (t *tokens) refuse(bad api.Errno) {
	panic(stop{t.here().At, bad})
}

// need stops at the token here, unless the grammar allows it.
func (t *tokens) need(allowed bool) {
	if !allowed {
		t.refuse(api.ErrSyntax)
	}
}

// over reports whether all was read.
func (t *tokens) over() bool {
	return t.here().Kind == api.TokEnd
}

// skip reads a word or sign if it is here, and reports whether it was.
func (t *tokens) skip(word string) bool {
	h := t.here()
	if h.Kind != api.TokName && h.Kind != api.TokSign || h.Text != word {
		return false
	}
	t.at++
	return true
}

// pass reads a word or sign that has to be here.
func (t *tokens) pass(word string) {
	t.need(t.skip(word))
}

func (t *tokens) name() string {
	h := t.here()
	t.need(h.Kind == api.TokName)
	t.at++
	return h.Text
}

// nameBehind reads a word that has to be here, and the name behind it.
func (t *tokens) nameBehind(word string) string {
	t.pass(word)
	return t.name()
}

// nameIf reads the name behind a word, if the word is here.
func (t *tokens) nameIf(word string) string {
	if !t.skip(word) {
		return ""
	}
	return t.name()
}

func (t *tokens) names() []string {
	l := []string{t.name()}
	for t.skip(",") {
		l = append(l, t.name())
	}
	return l
}

// namesIf reads the names behind a word, if the word is here.
func (t *tokens) namesIf(word string) []string {
	if !t.skip(word) {
		return nil
	}
	return t.names()
}

// digits reads a number that is at most the given one.
func (t *tokens) digits(most int64) int64 {
	h := t.here()
	t.need(h.Kind == api.TokInt && h.Num <= most)
	t.at++
	return h.Num
}

// limits reads a range.
func (t *tokens) limits() (int, int) {
	low := t.digits(mostInRange)
	t.pass("..")
	return int(low), int(t.digits(mostInRange))
}
