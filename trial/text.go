package trial

import (
	"potbank/api"
	"potbank/lines"
)

// wrongText is what reading a text panics with that is not one of an event.
type wrongText struct{}

// row returns the text of numbers, with one space between them.
func row(numbers ...*int) string {
	told := make([]int, len(numbers))
	for i, n := range numbers {
		told[i] = *n
	}
	return lines.Row(told...)
}

// readRow puts numbers to what a text tells; the text is wrong unless it is the row of so many.
func readRow(text string, numbers ...*int) {
	if !lines.Fill(text, numbers...) {
		panic(wrongText{})
	}
}

// read returns the event, valid or not, that has what x has beside a text, and the numbers of the text.
func read(x api.Event, text string) api.Event {
	y := head(x)
	readRow(text, numbersOf(&y)...)
	return y
}

// Write returns the text of an event.
func Write(x api.Event) (string, api.Errno) {
	if e := CheckEvent(x); e != api.OK {
		return "", e
	}
	return row(numbersOf(&x)...), api.OK
}

// Read returns the valid event that a text tells, with the At, Kind, Day, Known and Of of x; ErrEvent if there is none.
func Read(x api.Event, text string) (event api.Event, err api.Errno) {
	defer func() {
		if recover() != nil {
			event, err = api.Event{}, api.ErrEvent
		}
	}()
	y := read(x, text)
	if e := CheckEvent(y); e != api.OK {
		return api.Event{}, e
	}
	return y, api.OK
}
