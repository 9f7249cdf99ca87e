package value

import (
	"strconv"
	"strings"

	"switchyard/api"
)

const hexDigits = "0123456789abcdef"

// Print returns the text of a value.
func Print(v api.Value) string {
	switch v.Kind {
	case api.Int:
		return strconv.FormatInt(v.Num, 10)
	case api.Bool:
		return strconv.FormatBool(v.Num != 0)
	case api.Text:
		return quote(v.Text)
	case api.Sym:
		return "'" + v.Text
	case api.List:
		return brackets(v.List)
	}
	return "none"
}

// Key returns the texts of the values, separated by commas.
func Key(l ...api.Value) string {
	texts := make([]string, len(l))
	for i, v := range l {
		texts[i] = Print(v)
	}
	return strings.Join(texts, ",")
}

// quote returns the bytes of s between quotes, with escapes for those that may
// not stand there as they are.
func quote(s string) string {
	var out strings.Builder
	out.WriteByte('"')
	for _, b := range []byte(s) {
		switch {
		case b == '"' || b == '\\':
			out.WriteByte('\\')
			out.WriteByte(b)
		case b < 32 || b > 126:
			out.WriteString(`\x`)
			out.WriteByte(hexDigits[b>>4])
			out.WriteByte(hexDigits[b&15])
		default:
			out.WriteByte(b)
		}
	}
	out.WriteByte('"')
	return out.String()
}

// brackets returns the numbers of a list.
func brackets(l []int64) string {
	texts := make([]string, len(l))
	for i, n := range l {
		texts[i] = strconv.FormatInt(n, 10)
	}
	return "[" + strings.Join(texts, ", ") + "]"
}
