package lex

import (
	"strconv"
	"strings"

	"switchyard/api"
	"switchyard/value"
)

// signs are the operators. One that begins with another stands ahead of it, so
// that the first one that fits is the longest.
var signs = [...]string{
	"->", "..", "==", "!=", "<=", ">=", "&&", "||",
	"{", "}", "(", ")", "[", "]", ";", ":", ",", ".",
	"=", "<", ">", "+", "-", "*", "/", "%", "!",
}

// blank returns how many bytes of white space s begins with.
func blank(s string) int {
	rest := s
	for {
		trimmed := strings.TrimLeft(rest, "\t\n\r ")
		if !strings.HasPrefix(trimmed, "//") {
			return len(s) - len(trimmed)
		}
		_, rest, _ = strings.Cut(trimmed, "\n")
	}
}

// The functions below return the token that s begins with, and how many bytes
// its source has: none if s begins with no token. There s is not empty.

func first(s string) (api.Token, int) {
	switch c := rune(s[0]); {
	case letter(c):
		return name(s)
	case digit(c):
		return digits(s)
	case c == '"':
		return quoted(s)
	case c == '\'':
		return symbol(s)
	}
	return sign(s)
}

func name(s string) (api.Token, int) {
	word := s[:run(s, inName)]
	if !value.Name(word) {
		return api.Token{}, 0
	}
	return api.Token{Kind: api.TokName, Text: strings.Clone(word)}, len(word)
}

func symbol(s string) (api.Token, int) {
	t, size := name(s[1:])
	if size == 0 {
		return api.Token{}, 0
	}
	t.Kind = api.TokSym
	return t, 1 + size
}

func digits(s string) (api.Token, int) {
	source := s[:run(s, digit)]
	n, err := strconv.ParseInt(source, 10, 64)
	if err != nil || source[0] == '0' && source != "0" {
		return api.Token{}, 0
	}
	return api.Token{Kind: api.TokInt, Text: strings.Clone(source), Num: n}, len(source)
}

func quoted(s string) (api.Token, int) {
	text, size := unquote(s)
	v := api.Value{Kind: api.Text, Text: text}
	// A text is printed in one way alone, so any other source is none of it.
	if !value.Right(v) || value.Print(v) != s[:size] {
		return api.Token{}, 0
	}
	return api.Token{Kind: api.TokText, Text: text}, size
}

func sign(s string) (api.Token, int) {
	for _, text := range signs {
		if strings.HasPrefix(s, text) {
			return api.Token{Kind: api.TokSign, Text: strings.Clone(text)}, len(text)
		}
	}
	return api.Token{}, 0
}

// unquote reads up to the quote that ends what s begins with, or to the end of
// s, and returns what is inside, and how many bytes it read. It takes more
// escapes and bytes than a quoted string may have.
func unquote(s string) (string, int) {
	var out strings.Builder
	at := 1
	for at < len(s) && s[at] != '"' {
		b, size := unescape(s[at:])
		out.WriteByte(b)
		at += size
	}
	return out.String(), min(at+1, len(s))
}

// unescape returns the byte that s begins with, and how many bytes it is
// written with.
func unescape(s string) (byte, int) {
	if s[0] != '\\' || len(s) < 2 {
		return s[0], 1
	}
	if s[1] == 'x' && len(s) >= 4 {
		if n, err := strconv.ParseUint(s[2:4], 16, 8); err == nil {
			return byte(n), 4
		}
	}
	return s[1], 2
}

// run returns how many letters s begins with that belong to it.
func run(s string, belongs func(rune) bool) int {
	for i, c := range s {
		if !belongs(c) {
			return i
		}
	}
	return len(s)
}

func inName(c rune) bool {
	return letter(c) || digit(c) || c == '_'
}

func letter(c rune) bool {
	return c >= 'A' && c <= 'Z' || c >= 'a' && c <= 'z'
}

func digit(c rune) bool {
	return c >= '0' && c <= '9'
}
