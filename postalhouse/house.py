"""The calls on one house, handed in as one list of numbers and answered as one list."""

from postalhouse.carriage import add_trip, cancel_run, post_item
from postalhouse.delivery import hand_item, pass_message_on, pay_out, pick_up
from postalhouse.events import go_on
from postalhouse.losing import check_bin, claim_loss, find_item, lose_item
from postalhouse.sorting import begin_round, pass_items
from postalhouse.state import House

# How many numbers stand behind each call's number, from trip (0) to claim (13).
HOW_MANY = (6, 2, 9, 1, 2, 1, 2, 2, 1, 2, 1, 2, 1, 1)


def answers(calls):
    """Answer the calls, one after another, on a new house."""
    house = House()
    answered = []
    place = 0
    while place < len(calls):
        end = place + 1 + HOW_MANY[calls[place]]
        answer = answer_call(house, calls[place], calls[place + 1:end])
        answered.append(len(answer))
        answered.extend(answer)
        place = end
    return answered


def answer_call(house, call, given):
    """Do one call and give back its answer; one that isn't refused goes into the journal."""
    answer = do_call(house, call, given)
    if answer[0] >= 0:
        house.journal.append((call, given))
    return answer


def do_call(house, call, given):
    """Do the call of that number."""
    if call == 0:
        return add_trip(house, given)
    if call == 1:
        return cancel_run(house, given)
    if call == 2:
        return post_item(house, given)
    if call == 3:
        return go_on(house, given)
    if call == 4:
        return lose_item(house, given)
    if call == 5:
        return check_bin(house, given)
    if call == 6:
        return find_item(house, given)
    if call == 7:
        return pass_items(house, given)
    if call == 8:
        return begin_round(house, given)
    if call == 9:
        return hand_item(house, given)
    if call == 10:
        return pick_up(house, given)
    if call == 11:
        return pass_message_on(house, given)
    if call == 12:
        return pay_out(house, given)
    return claim_loss(house, given)
