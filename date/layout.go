package date

import (
	"certpath/api"
)

// The layouts of times. Y, M, D, h, m and s are digits of year, month, day, hour, minute and second; all other bytes stand for themselves.
const (
	layoutUTC  = "YYMMDDhhmmssZ"
	layoutTime = "YYYYMMDDhhmmssZ"
	layoutText = "YYYY-MM-DD hh:mm:ss"
)

const base = 10

// Decode returns the time of the contents of an element with this identifier octet.
func Decode(tag int, c string) (int, api.Errno) {
	switch tag {
	case api.TagUTCTime:
		return decodeUTC(c)
	case api.TagTime:
		return decodeTime(c)
	}
	return 0, api.ErrTag
}

func decodeUTC(c string) (int, api.Errno) {
	d, ok := read(layoutUTC, c)
	if !ok {
		return 0, api.ErrTime
	}
	d.Year += shortYears
	if d.Year < firstYear {
		d.Year += century
	}
	return Seconds(d)
}

func decodeTime(c string) (int, api.Errno) {
	d, ok := read(layoutTime, c)
	if !ok || d.Year < longYear {
		return 0, api.ErrTime
	}
	return Seconds(d)
}

// Encode returns the whole element for a time.
func Encode(t int) (string, api.Errno) {
	d, err := Civil(t)
	if err != api.OK {
		return "", err
	}
	if d.Year < longYear {
		return element(api.TagUTCTime, write(layoutUTC, d)), api.OK
	}
	return element(api.TagTime, write(layoutTime, d)), api.OK
}

// element returns the element with few contents: so few that their number is the second octet.
func element(tag byte, contents string) string {
	return string([]byte{tag, byte(len(contents))}) + contents
}

// Format returns a time as text.
func Format(t int) (string, api.Errno) {
	d, err := Civil(t)
	if err != api.OK {
		return "", err
	}
	return write(layoutText, d), api.OK
}

// Parse returns the time with this text.
func Parse(s string) (int, api.Errno) {
	d, ok := read(layoutText, s)
	if !ok {
		return 0, api.ErrTime
	}
	return Seconds(d)
}

// read returns what s says in this layout, and whether it has the layout. That is a date only if valid says so.
func read(layout, s string) (api.Date, bool) {
	var d api.Date
	if len(s) != len(layout) {
		return api.Date{}, false
	}
	for i := range len(layout) {
		field := fieldOf(&d, layout[i])
		if field == nil {
			if s[i] != layout[i] {
				return api.Date{}, false
			}
			continue
		}
		if s[i] < '0' || s[i] > '9' {
			return api.Date{}, false
		}
		*field = *field*base + int(s[i]-'0')
	}
	return d, true
}

// write returns a date in this layout. It goes backward, so that a year of two digits has the last ones.
func write(layout string, d api.Date) string {
	b := []byte(layout)
	for i := len(b) - 1; i >= 0; i-- {
		if field := fieldOf(&d, layout[i]); field != nil {
			b[i] = '0' + byte(*field%base)
			*field /= base
		}
	}
	return string(b)
}

// fieldOf returns the field of d to which a letter of a layout belongs, or nil if it belongs to none.
func fieldOf(d *api.Date, letter byte) *int {
	switch letter {
	case 'Y':
		return &d.Year
	case 'M':
		return &d.Month
	case 'D':
		return &d.Day
	case 'h':
		return &d.Hour
	case 'm':
		return &d.Minute
	case 's':
		return &d.Second
	}
	return nil
}
